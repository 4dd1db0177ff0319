/- Texts put together: SxRefLeaf, SxRefWords, SxBack, SxRPrint, SxRPrint2, SxFew. -/
import Derived.Test.YtcpkejonpnmljaaSexpLongCardM6
import Derived.Lib.SlBytesConst
import Derived.Deep.DeepCutAuto
import Derived.Deep.RegionHeld3
import Derived.Deep.QuietTactic
import Derived.BigQuiet
/- elenchusref03's questions on bytes and texts: digit, blank, inside, sign; Plain, Quotable, Numeral, run. Made by gen_sxrefleaf.py. -/
namespace Go.Proofs.Ytcpkejonpnmljaa
open Go.RowKit

def refDig (n : Nat) : Bool := decide (48 ≤ n) && decide (n ≤ 57)
theorem refDig_eq (n : Nat) (hn : n < 256) : refDig n = sxDig n := by
  have : ∀ n : Fin 256, refDig n.1 = sxDig n.1 := by decide +kernel
  exact this ⟨n, hn⟩
def refBlank (n : Nat) : Bool := n == 32 || n == 9 || n == 10 || n == 13
def refIn (n : Nat) : Bool := refBlank n || (decide (32 ≤ n) && decide (n ≤ 126) && n != 124 && n != 92)
theorem refIn_eq (n : Nat) (hn : n < 256) : refIn n = sxQuo n := by
  have : ∀ n : Fin 256, refIn n.1 = sxQuo n.1 := by decide +kernel
  exact this ⟨n, hn⟩
def refMarks : List Nat := [126, 33, 64, 36, 37, 94, 38, 42, 95, 45, 43, 61, 60, 62, 46, 63, 47]
def refAl (n : Nat) : Bool := (decide (48 ≤ n) && decide (n ≤ 57)) || (decide (97 ≤ n) && decide (n ≤ 122)) || (decide (65 ≤ n) && decide (n ≤ 90))
theorem refSign_eq (n : Nat) (hn : n < 256) : (refAl n || refMarks.contains n) = sxSign n := by
  have : ∀ n : Fin 256, (refAl n.1 || refMarks.contains n.1) = sxSign n.1 := by decide +kernel
  exact this ⟨n, hn⟩
def RYes (b : Bool) (w : World) (e : Ending) (w' : World) : Prop := e = .returned (.bool b) ∧ Below w.heap.size w w'

set_option maxRecDepth 100000 in
set_option maxHeartbeats 1600000 in
theorem rdigit_any (n : Nat) (hn : n < 256) (w : World) : Calls Try.prog 29 #[.int .u8 (n : Nat)] w (SxV (.bool (sxDig n)) w) := by
  rw [← refDig_eq n hn]
  have hr : Hid (refDig n = (decide ((48 : Int) ≤ (n : Int)) && decide ((n : Int) ≤ 57))) := by unfold Hid refDig; rw [Bool.eq_iff_iff]; simp; omega
  generalize refDig n = r at *
  by_cases h1 : decide ((48 : Int) ≤ (n : Int)) = true
  · go_enter Try.func29, Try.ntmps29
    go_wp2
    go_ret
    exact ⟨sx_ret_bool (by rw [hr.out, h1]; rfl), rfl⟩
  · have h1 : decide ((48 : Int) ≤ (n : Int)) = false := by simpa using h1
    go_enter Try.func29, Try.ntmps29
    go_wp2
    go_ret
    exact ⟨sx_ret_bool (by rw [hr.out, h1]; rfl), rfl⟩

set_option maxRecDepth 100000 in
set_option maxHeartbeats 1600000 in
theorem rblank_any (n : Nat) (w : World) : Calls Try.prog 49 #[.int .u8 (n : Nat)] w (SxV (.bool (refBlank n)) w) := by
  have hr : Hid (refBlank n = (((n : Int) == 32) || ((n : Int) == 9) || ((n : Int) == 10) || ((n : Int) == 13))) := by unfold Hid refBlank; rw [Bool.eq_iff_iff]; simp; omega
  generalize refBlank n = r at *
  by_cases h0 : ((n : Int) == 32) = true
  · go_enter Try.func49, Try.ntmps49
    go_wp2
    go_ret
    exact ⟨sx_ret_bool (by rw [hr.out, h0]; rfl), rfl⟩
  · have h0 : ((n : Int) == 32) = false := by simpa using h0
    by_cases h1 : ((n : Int) == 9) = true
    · go_enter Try.func49, Try.ntmps49
      go_wp2
      go_ret
      exact ⟨sx_ret_bool (by rw [hr.out, h0, h1]; rfl), rfl⟩
    · have h1 : ((n : Int) == 9) = false := by simpa using h1
      by_cases h2 : ((n : Int) == 10) = true
      · go_enter Try.func49, Try.ntmps49
        go_wp2
        go_ret
        exact ⟨sx_ret_bool (by rw [hr.out, h0, h1, h2]; rfl), rfl⟩
      · have h2 : ((n : Int) == 10) = false := by simpa using h2
        by_cases h3 : ((n : Int) == 13) = true
        · go_enter Try.func49, Try.ntmps49
          go_wp2
          go_ret
          exact ⟨sx_ret_bool (by rw [hr.out, h0, h1, h2, h3]; rfl), rfl⟩
        · have h3 : ((n : Int) == 13) = false := by simpa using h3
          go_enter Try.func49, Try.ntmps49
          go_wp2
          go_ret
          exact ⟨sx_ret_bool (by rw [hr.out, h0, h1, h2, h3]; rfl), rfl⟩

set_option maxRecDepth 100000 in
set_option maxHeartbeats 1600000 in
theorem rinside_any (n : Nat) (hn : n < 256) (w : World) : Calls Try.prog 30 #[.int .u8 (n : Nat)] w (SxV (.bool (sxQuo n)) w) := by
  rw [← refIn_eq n hn]
  have hb := rblank_any n w
  have hr : Hid (refIn n = (refBlank n || (decide ((32 : Int) ≤ (n : Int)) && decide ((n : Int) ≤ 126) && ((n : Int) != 124) && ((n : Int) != 92)))) := by
    unfold Hid refIn; congr 1; rw [Bool.eq_iff_iff]; simp; omega
  generalize refIn n = r at *
  generalize refBlank n = b at *
  have Hb := hid hb
  clear hb
  cases b with
  | true =>
    go_enter Try.func30, Try.ntmps30
    go_wp2_with fail
    refine Hb.out.mono ?_
    rintro e w' ⟨rfl, rfl⟩
    go_wp2_with fail
    go_ret
    exact ⟨sx_ret_bool (by rw [hr.out]; rfl), rfl⟩
  | false =>
    by_cases h0 : decide ((32 : Int) ≤ (n : Int)) = false
    · go_enter Try.func30, Try.ntmps30
      go_wp2_with fail
      refine Hb.out.mono ?_
      rintro e w' ⟨rfl, rfl⟩
      go_wp2_with fail
      go_ret
      exact ⟨sx_ret_bool (by rw [hr.out, h0]; rfl), rfl⟩
    · have h0 : decide ((32 : Int) ≤ (n : Int)) = true := by simpa using h0
      by_cases h1 : decide ((n : Int) ≤ 126) = false
      · go_enter Try.func30, Try.ntmps30
        go_wp2_with fail
        refine Hb.out.mono ?_
        rintro e w' ⟨rfl, rfl⟩
        go_wp2_with fail
        go_ret
        exact ⟨sx_ret_bool (by rw [hr.out, h0, h1]; rfl), rfl⟩
      · have h1 : decide ((n : Int) ≤ 126) = true := by simpa using h1
        by_cases h2 : ((n : Int) != 124) = false
        · go_enter Try.func30, Try.ntmps30
          go_wp2_with fail
          refine Hb.out.mono ?_
          rintro e w' ⟨rfl, rfl⟩
          go_wp2_with fail
          go_ret
          exact ⟨sx_ret_bool (by rw [hr.out, h0, h1, h2]; rfl), rfl⟩
        · have h2 : ((n : Int) != 124) = true := by simpa using h2
          by_cases h3 : ((n : Int) != 92) = false
          · go_enter Try.func30, Try.ntmps30
            go_wp2_with fail
            refine Hb.out.mono ?_
            rintro e w' ⟨rfl, rfl⟩
            go_wp2_with fail
            go_ret
            exact ⟨sx_ret_bool (by rw [hr.out, h0, h1, h2, h3]; rfl), rfl⟩
          · have h3 : ((n : Int) != 92) = true := by simpa using h3
            go_enter Try.func30, Try.ntmps30
            go_wp2_with fail
            refine Hb.out.mono ?_
            rintro e w' ⟨rfl, rfl⟩
            go_wp2_with fail
            go_ret
            exact ⟨sx_ret_bool (by rw [hr.out, h0, h1, h2, h3]; rfl), rfl⟩

theorem marks_at : ∀ j : Fin 17, (refMarks.getD j.1 0) < 256 := by decide
set_option maxRecDepth 100000 in
set_option maxHeartbeats 3200000 in
theorem rsign_other (n : Nat) (hn : n < 256) (w : World) (c1 : (decide ((48 : Int) ≤ (n : Int)) && decide ((n : Int) ≤ 57)) = false) (c2 : decide ((97 : Int) ≤ (n : Int)) = true → decide ((n : Int) ≤ 122) = false) (c3 : decide ((65 : Int) ≤ (n : Int)) = true → decide ((n : Int) ≤ 90) = false) :
    Calls Try.prog 28 #[.int .u8 (n : Nat)] w (RYes (refMarks.contains n) w) := by
  have hd : sxDig n = false := by
    rw [← refDig_eq n hn]; unfold refDig
    rw [← c1, Bool.eq_iff_iff]; simp; omega
  have Hd := fun W => hid (rdigit_any n hn W)
  rw [hd] at Hd
  obtain ⟨r, hr⟩ : ∃ r, r = refMarks.contains n := ⟨_, rfl⟩
  rw [← hr]
  have Hr := hid hr
  clear hd hr c1
  have key : ∀ (W1 : World) (g : Nat), W1.heap[g]? = some (.cells #[.int .u8 126, .int .u8 33, .int .u8 64, .int .u8 36, .int .u8 37, .int .u8 94, .int .u8 38, .int .u8 42, .int .u8 95, .int .u8 45, .int .u8 43, .int .u8 61, .int .u8 60, .int .u8 62, .int .u8 46, .int .u8 63, .int .u8 47] 5 (17, 18)) →
      ∀ j, j < 17 → W1.cell? ⟨g, j, none⟩ = some (.int .u8 (refMarks.getD j 0 : Nat)) := fun W1 g h j hj => by
    rw [cell_of_row W1 g j _ _ (17, 18) h]
    have : ∀ j : Fin 17, (#[.int .u8 126, .int .u8 33, .int .u8 64, .int .u8 36, .int .u8 37, .int .u8 94, .int .u8 38, .int .u8 42, .int .u8 95, .int .u8 45, .int .u8 43, .int .u8 61, .int .u8 60, .int .u8 62, .int .u8 46, .int .u8 63, .int .u8 47] : Array Value)[j.1]? = some (.int .u8 (refMarks.getD j.1 0 : Nat)) := fun ⟨j, hj⟩ => by
      match j, hj with
      | 0, _ => rfl
      | 1, _ => rfl
      | 2, _ => rfl
      | 3, _ => rfl
      | 4, _ => rfl
      | 5, _ => rfl
      | 6, _ => rfl
      | 7, _ => rfl
      | 8, _ => rfl
      | 9, _ => rfl
      | 10, _ => rfl
      | 11, _ => rfl
      | 12, _ => rfl
      | 13, _ => rfl
      | 14, _ => rfl
      | 15, _ => rfl
      | 16, _ => rfl
      | k + 17, hj => exact absurd hj (by omega)
    exact this ⟨j, hj⟩
  have Key := hid key
  clear key
  have kc := fun (w : World) (C : Array Value) (n c : Nat) => Lib.run_convert_bytes_const (P := Try.prog) w 23 5 C n c Try.underlying23 (by kernel_rfl)
  have body : ∀ (a97 a122 a65 a90 : Bool), decide ((97 : Int) ≤ (n : Int)) = a97 → decide ((n : Int) ≤ 122) = a122 → decide ((65 : Int) ≤ (n : Int)) = a65 → decide ((n : Int) ≤ 90) = a90 → (a97 = true → a122 = false) → (a65 = true → a90 = false) →
      Calls Try.prog 28 #[.int .u8 (n : Nat)] w (RYes r w) := fun a97 a122 a65 a90 e1 e2 e3 e4 k1 k2 => by
    clear c2 c3
    cases a97 <;> cases a122 <;> cases a65 <;> cases a90 <;> first | (exact absurd (k1 rfl) (by decide)) | (exact absurd (k2 rfl) (by decide)) | (exfalso; simp at e1 e2 e3 e4; omega) | skip
    all_goals
      clear k1 k2
      go_enter Try.func28, Try.ntmps28
      go_wp2_with fail
      refine (Hd _).out.mono ?_
      rintro e w' ⟨rfl, rfl⟩
      go_wp2_with fail
      generalize hW : World.alloc w _ = W1
      have hb1 : Below w.heap.size w W1 := by rw [← hW]; exact below1 _ _
      have hk := Key.out W1 w.heap.size (by rw [← hW]; exact heap_alloc_new w _)
      have Hk := hid hk; have HB1 := hid hb1
      clear hW hk hb1
      go_loop [26] (fun i => ∃ j : Nat, j ≤ 17 ∧ i = .int .i64 (j : Nat) ∧ Hid (∀ k, k < j → refMarks.getD k 0 ≠ n)) (fun i => 17 - (RowKit.intOf i).toNat)
      case atStart => exact ⟨0, Nat.zero_le _, rfl, fun k hk => absurd hk (Nat.not_lt_zero _)⟩
      case round =>
        obtain ⟨j, hj, rfl, hall⟩ := hrel
        by_cases hlt : j < 17
        · have hlt' : (j : Int) < 17 := by omega
          have hc := Hk.out j hlt
          by_cases he : refMarks.getD j 0 = n
          · have hyes : Hid (r = true) := by
              unfold Hid; rw [Hr.out]
              have : refMarks.getD j 0 ∈ refMarks := by
                have hjl : j < refMarks.length := hlt
                simp only [List.getD, List.getElem?_eq_getElem hjl, Option.getD_some]
                exact List.getElem_mem hjl
              rw [he] at this
              simpa using this
            rw [he] at hc
            clear hall he
            go_wp2_with fail
            go_ret
            exact ⟨by rw [hyes.out]; rfl, HB1.out⟩
          · have hall' : Hid (∀ k, k < j + 1 → refMarks.getD k 0 ≠ n) := fun k hk => by
              by_cases hkj : k = j
              · subst hkj; exact he
              · exact hall.out k (by omega)
            have hne : (((n : Nat) : Int) == ((refMarks.getD j 0 : Nat) : Int)) = false := by simp only [beq_eq_false_iff_ne]; omega
            generalize refMarks.getD j 0 = m at *
            clear hall he
            go_wp2_with fail
            go_round
            case rel => exact ⟨j + 1, by omega, by go_num, hall'⟩
            case measure => (simp [RowKit.intOf] <;> omega)
        · have hno : Hid (r = false) := by
            unfold Hid; rw [Hr.out]
            cases hc : refMarks.contains n with
            | false => rfl
            | true =>
              exfalso
              have hm : n ∈ refMarks := by simpa using hc
              obtain ⟨k, hk, hkn⟩ := List.getElem_of_mem hm
              refine hall.out k (by have : refMarks.length = 17 := rfl; omega) ?_
              simp only [List.getD, List.getElem?_eq_getElem hk, Option.getD_some]
              exact hkn
          obtain rfl : j = 17 := by omega
          clear hall
          go_wp2_with fail
          go_ret
          exact ⟨by rw [hno.out]; rfl, HB1.out⟩
  exact body _ _ _ _ rfl rfl rfl rfl c2 c3
end Go.Proofs.Ytcpkejonpnmljaa
/- elenchusref03.sign, Plain, Quotable, Numeral, run. -/
namespace Go.Proofs.Ytcpkejonpnmljaa
open Go.RowKit

set_option maxRecDepth 100000 in
set_option maxHeartbeats 3200000 in
theorem rsign_any (n : Nat) (hn : n < 256) (w : World) : Calls Try.prog 28 #[.int .u8 (n : Nat)] w (RYes (sxSign n) w) := by
  have hd := rdigit_any n hn w
  rw [← refDig_eq n hn] at hd
  rw [← refSign_eq n hn]
  by_cases d1 : 48 ≤ n ∧ n ≤ 57
  · have e : refDig n = true := by unfold refDig; simp; omega
    have e2 : refAl n = true := by unfold refAl; simp; omega
    rw [e] at hd; rw [e2, Bool.true_or]
    have Hd := hid hd
    clear hd
    go_enter Try.func28, Try.ntmps28
    go_wp2_with fail
    refine Hd.out.mono ?_
    rintro e w' ⟨rfl, rfl⟩
    go_wp2_with fail
    go_ret
    exact ⟨rfl, Below.refl _ _⟩
  · have e : refDig n = false := by unfold refDig; simp; omega
    rw [e] at hd
    by_cases d2 : 97 ≤ n ∧ n ≤ 122
    · have e2 : refAl n = true := by unfold refAl; simp; omega
      rw [e2, Bool.true_or]
      have Hd := hid hd
      have c1 : decide ((97 : Int) ≤ (n : Int)) = true := by simp; omega
      have c2 : decide ((n : Int) ≤ 122) = true := by simp; omega
      clear hd
      go_enter Try.func28, Try.ntmps28
      go_wp2_with fail
      refine Hd.out.mono ?_
      rintro e w' ⟨rfl, rfl⟩
      go_wp2_with fail
      go_ret
      exact ⟨rfl, Below.refl _ _⟩
    · by_cases d3 : 65 ≤ n ∧ n ≤ 90
      · have e2 : refAl n = true := by unfold refAl; simp; omega
        rw [e2, Bool.true_or]
        have Hd := hid hd
        have c1 : decide ((97 : Int) ≤ (n : Int)) = false := by simp; omega
        have c3 : decide ((65 : Int) ≤ (n : Int)) = true := by simp; omega
        have c4 : decide ((n : Int) ≤ 90) = true := by simp; omega
        clear hd
        go_enter Try.func28, Try.ntmps28
        go_wp2_with fail
        refine Hd.out.mono ?_
        rintro e w' ⟨rfl, rfl⟩
        go_wp2_with fail
        go_ret
        exact ⟨rfl, Below.refl _ _⟩
      · have e2 : refAl n = false := by unfold refAl; simp; omega
        rw [e2, Bool.false_or]
        exact rsign_other n hn w (by simp; omega) (by simp; omega) (by simp; omega)

theorem sxAll_iff (p : Nat → Bool) (s : ByteArray) : sxAll p s = true ↔ ∀ j (h : j < s.size), p (s[j]'h).toNat = true := by
  unfold sxAll
  rw [List.all_eq_true]
  constructor
  · intro h j hj
    exact h _ (by rw [Array.mem_toList_iff]; exact Array.getElem_mem (xs := s.data) hj)
  · intro h c hc
    obtain ⟨j, hj, rfl⟩ := List.getElem_of_mem hc
    have hj' : j < s.size := by simpa using hj
    have := h j hj'
    rw [Array.getElem_toList]
    exact this

set_option maxRecDepth 100000 in
set_option maxHeartbeats 3200000 in
theorem rquotable_any (s : ByteArray) (w : World) (hs : s.size ≤ 9223372036854775807) : Calls Try.prog 19 #[.string s] w (SxV (.bool (sxAll sxQuo s)) w) := by
  have hr := sxAll_iff sxQuo s
  generalize sxAll sxQuo s = r at *
  have Hr := hid hr
  clear hr
  have hsi : (s.size : Int) ≤ 9223372036854775807 := by omega
  go_enter Try.func19, Try.ntmps19
  go_wp2_with fail
  go_loop [3] (fun i => ∃ k : Nat, k ≤ s.size ∧ i = .int .i64 (k : Nat) ∧ Hid (∀ j (h : j < s.size), j < k → sxQuo (s[j]'h).toNat = true)) (fun i => s.size - (RowKit.intOf i).toNat)
  case atStart => exact ⟨0, Nat.zero_le _, rfl, fun j h hj => absurd hj (Nat.not_lt_zero _)⟩
  case round =>
    obtain ⟨k, hk, rfl, hall⟩ := hrel
    by_cases hlt : k < s.size
    · have hc := hid (rinside_any (s[k]'hlt).toNat (UInt8.toNat_lt _) w)
      have hlt' : (k : Int) < (s.size : Int) := by omega
      by_cases hp : sxQuo (s[k]'hlt).toNat = true
      · rw [hp] at hc
        have hall' : Hid (∀ j (h : j < s.size), j < k + 1 → sxQuo (s[j]'h).toNat = true) := fun j h hj => by
          by_cases hjk : j = k
          · subst hjk; exact hp
          · exact hall.out j h (by omega)
        clear hall hp
        go_wp2_with fail
        refine hc.out.mono ?_
        rintro e w' ⟨rfl, rfl⟩
        go_wp2_with fail
        go_round
        case rel => exact ⟨k + 1, by omega, by go_num, hall'⟩
        case measure => (simp [RowKit.intOf] <;> omega)
      · have hf : Hid (r = false) := by
          cases r with
          | false => rfl
          | true => exact absurd (Hr.out.1 rfl k hlt) hp
        have hp : sxQuo (s[k]'hlt).toNat = false := by simpa using hp
        rw [hp] at hc
        clear hall hp
        go_wp2_with fail
        refine hc.out.mono ?_
        rintro e w' ⟨rfl, rfl⟩
        go_wp2_with fail
        go_ret
        exact ⟨by rw [hf.out]; rfl, rfl⟩
    · have hf : Hid (r = true) := Hr.out.2 fun j h => hall.out j h (by omega)
      obtain rfl : k = s.size := by omega
      clear hall
      go_wp2_with fail
      go_ret
      exact ⟨by rw [hf.out]; rfl, rfl⟩

theorem sxPlain_of {s : ByteArray} (h0 : 0 < s.size) (h : ∀ j (h : j < s.size), sxSign (s[j]'h).toNat = true) : sxPlain s = !sxDig (s[0]'h0).toNat := by
  obtain ⟨c, l, e, ec⟩ := sx_list h0
  unfold sxPlain
  rw [e, ← ec, (sxAll_iff sxSign s).2 h]
  have h1 := h 0 h0
  rw [← ec] at h1
  unfold sxSign at h1
  unfold sxDig
  simp only [Bool.or_eq_true, beq_iff_eq] at h1
  rcases h1 with h1 | h1 <;> simp [h1]
theorem sxPlain_not {s : ByteArray} (k : Nat) (hk : k < s.size) (h : sxSign (s[k]'hk).toNat = false) : sxPlain s = false := by
  cases hp : sxPlain s with
  | false => rfl
  | true =>
    exfalso
    obtain ⟨c, l, e, ec⟩ := sx_list (s := s) (by omega)
    unfold sxPlain at hp
    rw [e] at hp
    simp only [Bool.and_eq_true] at hp
    have := (sxAll_iff sxSign s).1 hp.2 k hk
    rw [h] at this; cases this

set_option maxRecDepth 100000 in
set_option maxHeartbeats 3200000 in
theorem rplain_any (s : ByteArray) (w : World) (hs : s.size ≤ 9223372036854775807) : Calls Try.prog 18 #[.string s] w (RYes (sxPlain s) w) := by
  obtain ⟨r, hr⟩ : ∃ r, r = sxPlain s := ⟨_, rfl⟩
  rw [← hr]
  have Hr := hid hr
  clear hr
  have hsi : (s.size : Int) ≤ 9223372036854775807 := by omega
  go_enter Try.func18, Try.ntmps18
  go_wp2_with fail
  go_loopw [3] (fun i wr => ∃ k : Nat, k ≤ s.size ∧ i = .int .i64 (k : Nat) ∧ Hid (∀ j (h : j < s.size), j < k → sxSign (s[j]'h).toNat = true) ∧ Hid (Below w.heap.size w wr)) (fun i _ => s.size - (RowKit.intOf i).toNat)
  case atStart => exact ⟨0, Nat.zero_le _, rfl, fun j h hj => absurd hj (Nat.not_lt_zero _), Below.refl _ _⟩
  case round =>
    obtain ⟨k, hk, rfl, hall, hbr⟩ := hrel
    by_cases hlt : k < s.size
    · have hc := hid (rsign_any (s[k]'hlt).toNat (UInt8.toNat_lt _) wr)
      have hlt' : (k : Int) < (s.size : Int) := by omega
      by_cases hp : sxSign (s[k]'hlt).toNat = true
      · rw [hp] at hc
        have hall' : Hid (∀ j (h : j < s.size), j < k + 1 → sxSign (s[j]'h).toNat = true) := fun j h hj => by
          by_cases hjk : j = k
          · subst hjk; exact hp
          · exact hall.out j h (by omega)
        clear hall hp
        go_wp2_with fail
        refine hc.out.mono ?_
        rintro e w' ⟨rfl, hb⟩
        have hbr' := hid (hbr.out.trans (hb.mono hbr.out.size))
        clear hb
        go_wp2_with fail
        go_roundw
        case rel => exact ⟨k + 1, by omega, by go_num, hall', hbr'⟩
        case measure => (simp [RowKit.intOf] <;> omega)
      · have hp : sxSign (s[k]'hlt).toNat = false := by simpa using hp
        have hf : Hid (r = false) := by unfold Hid; rw [Hr.out]; exact sxPlain_not k hlt hp
        rw [hp] at hc
        clear hall hp Hr
        go_wp2_with fail
        refine hc.out.mono ?_
        rintro e w' ⟨rfl, hb⟩
        have hbr' := hid (hbr.out.trans (hb.mono hbr.out.size))
        clear hb
        go_wp2_with fail
        go_ret
        exact ⟨by rw [hf.out]; rfl, hbr'.out⟩
    · obtain rfl : k = s.size := by omega
      by_cases h0 : s.size = 0
      · have hf : Hid (r = false) := by unfold Hid; rw [Hr.out]; unfold sxPlain; rw [sx_empty h0]
        have he := sx_emp1 h0
        clear hall Hr
        go_wp2_with fail
        go_ret
        exact ⟨by rw [hf.out]; rfl, hbr.out⟩
      · have hp := Nat.pos_of_ne_zero h0
        have he := sx_emp2 hp
        have hf : Hid (r = !sxDig (s[0]'hp).toNat) := by unfold Hid; rw [Hr.out]; exact sxPlain_of hp (fun j h => hall.out j h h)
        have hd := hid (rdigit_any (s[0]'hp).toNat (UInt8.toNat_lt _) wr)
        have hp' : (0 : Int) < (s.size : Int) := by omega
        generalize sxDig (s[0]'hp).toNat = d at *
        clear hall Hr
        go_wp2_with fail
        refine hd.out.mono ?_
        rintro e w' ⟨rfl, rfl⟩
        go_wp2_with fail
        go_ret
        exact ⟨by rw [hf.out]; rfl, hbr.out⟩

theorem sxNum_of {s : ByteArray} (h : ∀ j (h : j < s.size), sxDig (s[j]'h).toNat = true) : sxNum s = (s.toList == [48] || (decide (0 < s.size) && ((s.data.toList.headD 0).toNat != 48))) := by
  by_cases h0 : s.size = 0
  · unfold sxNum; rw [sx_empty h0, Lib.toList_data, sx_empty h0, h0]; rfl
  · obtain ⟨c, l, e, ec⟩ := sx_list (Nat.pos_of_ne_zero h0)
    unfold sxNum
    rw [Lib.toList_data, e, (sxAll_iff sxDig s).2 h]
    have hd : decide (0 < s.size) = true := by simp; omega
    rw [hd]
    simp only [List.headD_cons, Bool.true_and, Bool.and_true]
    by_cases hc : c = 48
    · subst hc
      cases l with
      | nil => rfl
      | cons a l => rfl
    · have h1 : (c.toNat == 48) = false := by
        rw [beq_eq_false_iff_ne]
        intro h2
        exact hc (UInt8.toNat_inj.1 h2)
      have h2 : (c.toNat != 48) = true := by simpa using h1
      rw [h1, h2]
      simp
theorem sxNum_not {s : ByteArray} (k : Nat) (hk : k < s.size) (h : sxDig (s[k]'hk).toNat = false) : sxNum s = false := by
  obtain ⟨c, l, e, ec⟩ := sx_list (s := s) (by omega)
  have hall : sxAll sxDig s = false := by
    cases ha : sxAll sxDig s with
    | false => rfl
    | true => have := (sxAll_iff sxDig s).1 ha k hk; rw [h] at this; cases this
  unfold sxNum
  rw [e]
  simp only [hall, Bool.and_false, Bool.or_false]
  cases hc : (c.toNat == 48) with
  | false => rfl
  | true =>
    cases l with
    | cons a l => rfl
    | nil =>
      exfalso
      have hl : s.data.toList.length = s.size := Array.length_toList
      rw [e] at hl
      simp at hl
      have hk0 : k = 0 := by omega
      subst hk0
      rw [← ec] at h
      have h48 : c.toNat = 48 := by simpa using hc
      rw [h48] at h
      revert h
      decide +kernel

set_option maxRecDepth 100000 in
set_option maxHeartbeats 3200000 in
theorem rnumeral_any (s : ByteArray) (w : World) (hs : s.size ≤ 9223372036854775807) : Calls Try.prog 20 #[.string s] w (SxV (.bool (sxNum s)) w) := by
  obtain ⟨r, hr⟩ : ∃ r, r = sxNum s := ⟨_, rfl⟩
  rw [← hr]
  have Hr := hid hr
  clear hr
  have hsi : (s.size : Int) ≤ 9223372036854775807 := by omega
  go_enter Try.func20, Try.ntmps20
  go_wp2_with fail
  go_loop [3] (fun i => ∃ k : Nat, k ≤ s.size ∧ i = .int .i64 (k : Nat) ∧ Hid (∀ j (h : j < s.size), j < k → sxDig (s[j]'h).toNat = true)) (fun i => s.size - (RowKit.intOf i).toNat)
  case atStart => exact ⟨0, Nat.zero_le _, rfl, fun j h hj => absurd hj (Nat.not_lt_zero _)⟩
  case round =>
    obtain ⟨k, hk, rfl, hall⟩ := hrel
    by_cases hlt : k < s.size
    · have hc := hid (rdigit_any (s[k]'hlt).toNat (UInt8.toNat_lt _) w)
      have hlt' : (k : Int) < (s.size : Int) := by omega
      by_cases hp : sxDig (s[k]'hlt).toNat = true
      · rw [hp] at hc
        have hall' : Hid (∀ j (h : j < s.size), j < k + 1 → sxDig (s[j]'h).toNat = true) := fun j h hj => by
          by_cases hjk : j = k
          · subst hjk; exact hp
          · exact hall.out j h (by omega)
        clear hall hp
        go_wp2_with fail
        refine hc.out.mono ?_
        rintro e w' ⟨rfl, rfl⟩
        go_wp2_with fail
        go_round
        case rel => exact ⟨k + 1, by omega, by go_num, hall'⟩
        case measure => (simp [RowKit.intOf] <;> omega)
      · have hp : sxDig (s[k]'hlt).toNat = false := by simpa using hp
        have hf : Hid (r = false) := by unfold Hid; rw [Hr.out]; exact sxNum_not k hlt hp
        rw [hp] at hc
        clear hall hp Hr
        go_wp2_with fail
        refine hc.out.mono ?_
        rintro e w' ⟨rfl, rfl⟩
        go_wp2_with fail
        go_ret
        exact ⟨by rw [hf.out]; rfl, rfl⟩
    · obtain rfl : k = s.size := by omega
      have hf : Hid (r = (s.toList == [48] || (decide (0 < s.size) && ((s.data.toList.headD 0).toNat != 48)))) := by unfold Hid; rw [Hr.out]; exact sxNum_of (fun j h => hall.out j h h)
      clear hall Hr
      cases h48 : (s.toList == [48]) with
      | true =>
        rw [h48] at hf
        go_wp2_with fail
        go_ret
        exact ⟨by rw [hf.out]; rfl, rfl⟩
      | false =>
        rw [h48] at hf
        by_cases h0 : s.size = 0
        · have he := sx_emp1 h0
          rw [h0] at hf
          go_wp2_with fail
          go_ret
          exact ⟨by rw [hf.out]; rfl, rfl⟩
        · have hp := Nat.pos_of_ne_zero h0
          have he := sx_emp2 hp
          have hp' : (0 : Int) < (s.size : Int) := by omega
          have hh : Hid (r = (((s[0]'hp).toNat : Int) != 48)) := by
            unfold Hid; rw [hf.out, head_byte s hp]
            have : decide (0 < s.size) = true := by simpa using hp
            rw [this, Bool.false_or, Bool.true_and, Bool.eq_iff_iff]
            simp; omega
          clear hf
          go_wp2_with fail
          go_ret
          exact ⟨by rw [hh.out]; rfl, rfl⟩

set_option maxRecDepth 100000 in
set_option maxHeartbeats 3200000 in
theorem rrun_any (s : ByteArray) (w : World) (hs : s.size ≤ 9223372036854775807) : Calls Try.prog 21 #[.string s, .int .i64 0] w fun e w' => e = .returned (.int .i64 (sxLead sxSign s : Nat)) ∧ Below w.heap.size w w' := by
  obtain ⟨r, hr⟩ : ∃ r, r = sxLead sxSign s := ⟨_, rfl⟩
  rw [← hr]
  have Hr := hid hr
  clear hr
  have hsi : (s.size : Int) ≤ 9223372036854775807 := by omega
  go_enter Try.func21, Try.ntmps21
  go_wp2_with fail
  go_loopw [5] (fun i wr => ∃ k : Nat, k ≤ s.size ∧ i = .int .i64 (k : Nat) ∧ Hid (∀ j (h : j < s.size), j < k → sxSign (s[j]'h).toNat = true) ∧ Hid (Below w.heap.size w wr)) (fun i _ => s.size - (RowKit.intOf i).toNat)
  case atStart => exact ⟨0, Nat.zero_le _, rfl, fun j h hj => absurd hj (Nat.not_lt_zero _), Below.refl _ _⟩
  case round =>
    obtain ⟨k, hk, rfl, hall, hbr⟩ := hrel
    by_cases hlt : k < s.size
    · have hc := hid (rsign_any (s[k]'hlt).toNat (UInt8.toNat_lt _) wr)
      have hlt' : decide ((k : Int) < (s.size : Int)) = true := by simp; omega
      have hki : (k : Int) < (s.size : Int) := by omega
      by_cases hp : sxSign (s[k]'hlt).toNat = true
      · rw [hp] at hc
        have hall' : Hid (∀ j (h : j < s.size), j < k + 1 → sxSign (s[j]'h).toNat = true) := fun j h hj => by
          by_cases hjk : j = k
          · subst hjk; exact hp
          · exact hall.out j h (by omega)
        clear hall hp
        go_wp2_with fail
        refine hc.out.mono ?_
        rintro e w' ⟨rfl, hb⟩
        have hbr' := hid (hbr.out.trans (hb.mono hbr.out.size))
        clear hb
        go_wp2_with fail
        go_roundw
        case rel => exact ⟨k + 1, by omega, by go_num, hall', hbr'⟩
        case measure => (simp [RowKit.intOf] <;> omega)
      · have hp : sxSign (s[k]'hlt).toNat = false := by simpa using hp
        have hf : Hid (r = k) := by
          unfold Hid; rw [Hr.out]
          exact sxLead_stop _ s k hk hall.out (fun _ => hp)
        rw [hp] at hc
        clear hall hp Hr
        go_wp2_with fail
        refine hc.out.mono ?_
        rintro e w' ⟨rfl, hb⟩
        have hbr' := hid (hbr.out.trans (hb.mono hbr.out.size))
        clear hb
        go_wp2_with fail
        go_ret
        exact ⟨by rw [hf.out]; rfl, hbr'.out⟩
    · have hf : Hid (r = k) := by
        unfold Hid; rw [Hr.out]
        exact sxLead_stop _ s k hk (fun j h _ => hall.out j h (by omega)) (fun h => absurd h (by omega))
      have hlt' : decide ((k : Int) < (s.size : Int)) = false := by simp; omega
      clear hall Hr
      go_wp2_with fail
      go_ret
      exact ⟨by rw [hf.out]; rfl, hbr.out⟩
end Go.Proofs.Ytcpkejonpnmljaa
/- What is printed is read as it was; what is read can be printed: on lists of bytes. -/
namespace Go.Proofs.Ytcpkejonpnmljaa
open Go.RowKit

mutual
/-- the text of an expression -/
def pxTxt : Px → List UInt8
  | .mk k t ps => if k = 4 then 40 :: (pxTs false ps ++ [41]) else (pxSigns k t).getD []
def pxTs : Bool → List Px → List UInt8
  | _, [] => []
  | more, p :: l => (if more then [32] else []) ++ (pxTxt p ++ pxTs true l)
end
theorem pxTxt_mk (k : Int) (t : ByteArray) (ps : List Px) : pxTxt (.mk k t ps) = if k = 4 then 40 :: (pxTs false ps ++ [41]) else (pxSigns k t).getD [] := by rw [pxTxt]
theorem pxTs_nil (m : Bool) : pxTs m [] = [] := by rw [pxTs]
theorem pxTs_cons (m : Bool) (p : Px) (l : List Px) : pxTs m (p :: l) = (if m then [32] else []) ++ (pxTxt p ++ pxTs true l) := by rw [pxTs]
theorem wrPut_out {x y : Wr} {s : List UInt8} (h : wrPut x s = some y) : y.out = x.out ++ (if x.gap then [32] else []) ++ s ∧ y.gap = false := by
  unfold wrPut at h
  split at h
  · cases h; exact ⟨rfl, rfl⟩
  · cases h
mutual
theorem wrExpr_out : ∀ (p : Px) (deep : Nat) (x y : Wr), wrExpr p deep x = some y → y.out = x.out ++ (if x.gap then [32] else []) ++ pxTxt p ∧ y.gap = false
  | .mk k t ps, deep, x, y, h => by
    rw [wrExpr_mk] at h
    rw [pxTxt_mk]
    split at h
    · next hk =>
      rw [if_pos hk]
      split at h
      · cases h
      · unfold wrList at h
        cases h1 : wrPut x [40] with
        | none => rw [h1] at h; cases h
        | some x1 =>
          rw [h1] at h
          simp only [Option.bind_some] at h
          cases h2 : wrParts ps deep false x1 with
          | none => rw [h2] at h; cases h
          | some x2 =>
            rw [h2] at h
            simp only [Option.bind_some] at h
            obtain ⟨a1, a2⟩ := wrPut_out h1
            obtain ⟨b1, b2⟩ := wrParts_out ps deep false x1 x2 h2 a2
            obtain ⟨c1, c2⟩ := wrPut_out h
            refine ⟨?_, c2⟩
            rw [c1, b1, a1, b2]
            simp
    · next hk =>
      rw [if_neg hk]
      split at h
      · cases h
      · next s hs =>
        split at h
        · rw [hs]; exact wrPut_out h
        · cases h
theorem wrParts_out : ∀ (l : List Px) (deep : Nat) (more : Bool) (x y : Wr), wrParts l deep more x = some y → x.gap = false → y.out = x.out ++ pxTs more l ∧ y.gap = false
  | [], deep, more, x, y, h, hg => by rw [wrParts_nil] at h; cases h; rw [pxTs_nil]; simp [hg]
  | p :: l, deep, more, x, y, h, hg => by
    rw [wrParts_cons] at h
    rw [pxTs_cons]
    cases h1 : wrExpr p (deep + 1) { x with gap := more } with
    | none => rw [h1] at h; cases h
    | some x1 =>
      rw [h1] at h
      simp only [Option.bind_some] at h
      obtain ⟨a1, a2⟩ := wrExpr_out p (deep + 1) { x with gap := more } x1 h1
      obtain ⟨b1, b2⟩ := wrParts_out l deep true x1 y h a2
      refine ⟨?_, b2⟩
      rw [b1, a1]
      simp
end

/-- what follows is no sign of a symbol -/
def NonSign (post : List UInt8) : Prop := ∀ c r, post = c :: r → sxSign c.toNat = false
theorem tw_stop {p : UInt8 → Bool} : ∀ (l : List UInt8) {post : List UInt8}, (∀ c ∈ l, p c = true) → (∀ c r, post = c :: r → p c = false) → (l ++ post).takeWhile p = l ∧ (l ++ post).dropWhile p = post
  | [], post, _, hp => by
    cases post with
    | nil => exact ⟨rfl, rfl⟩
    | cons c r => simp [List.takeWhile_cons, List.dropWhile_cons, hp c r rfl]
  | a :: l, post, h, hp => by
    have ha := h a (by simp)
    obtain ⟨i1, i2⟩ := tw_stop l (fun c hc => h c (by simp [hc])) hp
    simp [List.takeWhile_cons, List.dropWhile_cons, ha, i1, i2]
theorem sign_of_all {s : ByteArray} (h : sxAll sxSign s = true) : ∀ c ∈ s.data.toList, sxSign c.toNat = true := by
  unfold sxAll at h; exact List.all_eq_true.1 h
theorem quo_of_all {s : ByteArray} (h : sxAll sxQuo s = true) : ∀ c ∈ s.data.toList, sxQuo c.toNat = true := by
  unfold sxAll at h; exact List.all_eq_true.1 h
theorem sign_of_dig {n : Nat} (h : sxDig n = true) : sxSign n = true := by unfold sxDig at h; unfold sxSign; rw [h]; simp
theorem Rd_leaf {k : Int} {t : ByteArray} {s post : List UInt8} {f f2 : List (List Px)} {l l2 : List Px} (h : pxSigns k t = some s) (hp : NonSign post) (hr : Rd post f (l ++ [.mk k t []]) f2 l2) : Rd (s ++ post) f l f2 l2 := by
  unfold pxSigns at h
  split at h
  · next hk =>
    subst hk
    split at h
    · next hpl =>
      injection h with h
      subst h
      cases hl : t.data.toList with
      | nil => unfold sxPlain at hpl; rw [hl] at hpl; cases hpl
      | cons c r =>
        have hpl' := hpl
        unfold sxPlain at hpl'; rw [hl] at hpl'
        simp only [Bool.and_eq_true, beq_iff_eq] at hpl'
        obtain ⟨t1, t2⟩ := tw_stop (p := fun c => sxSign c.toNat) (c :: r) (post := post) (by rw [← hl]; exact sign_of_all hpl'.2) hp
        refine .step (r := post) (f1 := f) (l1 := l ++ [.mk 1 t []]) ?_ hr
        unfold rdStep
        rw [hpl'.1]
        simp only
        rw [List.cons_append] at t1 t2
        have e1 : bz (c :: r) = t := by rw [← hl]; rfl
        simp only [List.append_eq, t1, t2, e1]
    · split at h
      · next hq =>
        injection h with h
        subst h
        have hc : sxQuo (124 : UInt8).toNat = false := by decide +kernel
        obtain ⟨t1, t2⟩ := tw_stop (p := fun c => sxQuo c.toNat) t.data.toList (post := 124 :: post) (quo_of_all hq) (fun c r e => by injection e with e _; rw [← e]; exact hc)
        refine .step (r := post) (f1 := f) (l1 := l ++ [.mk 1 t []]) ?_ hr
        have h5 : sxSort (124 : UInt8).toNat = 5 := by decide +kernel
        unfold rdStep
        rw [h5]
        simp only [List.append_eq, List.append_assoc, List.cons_append, List.nil_append, t1, t2, h5, if_true]
        rfl
      · cases h
  · split at h
    · next hk =>
      subst hk
      split at h
      · next hn =>
        injection h with h
        subst h
        cases hl : t.data.toList with
        | nil => unfold sxNum at hn; rw [hl] at hn; cases hn
        | cons c r =>
          have hn' := hn
          unfold sxNum at hn'; rw [hl] at hn'
          simp only [Bool.or_eq_true, Bool.and_eq_true, beq_iff_eq, bne_iff_ne] at hn'
          have hall : ∀ x ∈ c :: r, sxDig x.toNat = true := by
            rcases hn' with ⟨h1, h2⟩ | ⟨h1, h2⟩
            · have : r = [] := by simpa using h2
              subst this
              intro x hx
              obtain rfl : x = c := by simpa using hx
              rw [h1]; decide +kernel
            · unfold sxAll at h2
              rw [hl] at h2
              simpa using h2
          have hs4 : sxSort c.toNat = 4 := by have := hall c (by simp); unfold sxDig at this; simpa using this
          obtain ⟨t1, t2⟩ := tw_stop (p := fun c => sxSign c.toNat) (c :: r) (post := post) (fun x hx => sign_of_dig (hall x hx)) hp
          refine .step (r := post) (f1 := f) (l1 := l ++ [.mk 2 t []]) ?_ hr
          have e1 : bz (c :: r) = t := by rw [← hl]; rfl
          unfold rdStep
          rw [hs4]
          simp only
          rw [List.cons_append] at t1 t2
          simp only [List.append_eq, t1, t2, e1, hn, if_true]
      · cases h
    · split at h
      · next hk =>
        subst hk
        split at h
        · next hky =>
          injection h with h
          subst h
          have hky' := hky
          unfold sxKey at hky'
          simp only [Bool.and_eq_true, Bool.not_eq_true', List.isEmpty_eq_false_iff] at hky'
          obtain ⟨t1, t2⟩ := tw_stop (p := fun c => sxSign c.toNat) t.data.toList (post := post) (sign_of_all hky'.2) hp
          refine .step (r := post) (f1 := f) (l1 := l ++ [.mk 3 t []]) ?_ hr
          have h6 : sxSort (58 : UInt8).toNat = 6 := by decide +kernel
          unfold rdStep
          rw [h6]
          simp only [List.append_eq, t1, t2, if_neg hky'.1]
          rfl
        · cases h
      · cases h
theorem nonSign_cons {c : UInt8} {r : List UInt8} (h : sxSign c.toNat = false) : NonSign (c :: r) := fun c' r' e => by injection e with e _; rw [← e]; exact h
theorem bz_empty {t : ByteArray} (h : t.size = 0) : t = bz [] := by
  have := sx_empty h
  cases t with | mk d => cases d with | mk l => simp at this; subst this; rfl
mutual
theorem Rd_px : ∀ (p : Px) (deep : Nat) (x y : Wr) (f : List (List Px)) (l : List Px) (post : List UInt8) (f2 : List (List Px)) (l2 : List Px), wrExpr p deep x = some y → f.length = deep → NonSign post → Rd post f (l ++ [p]) f2 l2 → Rd (pxTxt p ++ post) f l f2 l2
  | .mk k t ps, deep, x, y, f, l, post, f2, l2, h, hf, hp, hr => by
    rw [wrExpr_mk] at h
    rw [pxTxt_mk]
    split at h
    · next hk =>
      subst hk
      rw [if_pos rfl]
      split at h
      · cases h
      · next hn =>
        have hd : deep ≠ 64 := fun e => hn (.inr e)
        have ht : t.size = 0 := Classical.byContradiction fun e => hn (.inl e)
        obtain rfl := bz_empty ht
        unfold wrList at h
        cases h1 : wrPut x [40] with
        | none => rw [h1] at h; cases h
        | some x1 =>
          rw [h1] at h
          simp only [Option.bind_some] at h
          cases h2 : wrParts ps deep false x1 with
          | none => rw [h2] at h; cases h
          | some x2 =>
            have h8 : sxSort (41 : UInt8).toNat = 8 := by decide +kernel
            have h7 : sxSort (40 : UInt8).toNat = 7 := by decide +kernel
            have hin : Rd (pxTs false ps ++ (41 :: post)) (f ++ [l]) [] f2 l2 := by
              refine Rd_pxs ps deep false x1 x2 (f ++ [l]) [] (41 :: post) f2 l2 h2 (by simp [hf]) (nonSign_cons (by decide +kernel)) ?_
              refine .step (r := post) (f1 := f) (l1 := l ++ [.mk 4 (bz []) ps]) ?_ hr
              unfold rdStep
              rw [h8]
              simp
            have e : (40 :: (pxTs false ps ++ [41])) ++ post = 40 :: (pxTs false ps ++ (41 :: post)) := by simp
            rw [e]
            refine .step (r := pxTs false ps ++ (41 :: post)) (f1 := f ++ [l]) (l1 := []) ?_ hin
            unfold rdStep
            rw [h7]
            simp only
            rw [if_neg (by omega)]
    · next hk =>
      rw [if_neg hk]
      split at h
      · cases h
      · next s hs =>
        split at h
        · next hl =>
          obtain rfl := List.eq_nil_of_length_eq_zero hl
          rw [hs]
          exact Rd_leaf hs hp hr
        · cases h
theorem Rd_pxs : ∀ (ps : List Px) (deep : Nat) (more : Bool) (x y : Wr) (f : List (List Px)) (l : List Px) (post : List UInt8) (f2 : List (List Px)) (l2 : List Px), wrParts ps deep more x = some y → f.length = deep + 1 → NonSign post → Rd post f (l ++ ps) f2 l2 → Rd (pxTs more ps ++ post) f l f2 l2
  | [], deep, more, x, y, f, l, post, f2, l2, h, hf, hp, hr => by rw [pxTs_nil]; simpa using hr
  | p :: ps, deep, more, x, y, f, l, post, f2, l2, h, hf, hp, hr => by
    rw [wrParts_cons] at h
    rw [pxTs_cons]
    cases h1 : wrExpr p (deep + 1) { x with gap := more } with
    | none => rw [h1] at h; cases h
    | some x1 =>
      rw [h1] at h
      simp only [Option.bind_some] at h
      have hn : NonSign (pxTs true ps ++ post) := by
        cases ps with
        | nil => rw [pxTs_nil]; exact hp
        | cons q ps => rw [pxTs_cons]; exact nonSign_cons (by decide +kernel)
      have h2 := Rd_px p (deep + 1) { x with gap := more } x1 f l (pxTs true ps ++ post) f2 l2 h1 hf hn (Rd_pxs ps deep true x1 y f (l ++ [p]) post f2 l2 h hf hp (by simpa using hr))
      cases more with
      | false => simpa using h2
      | true =>
        have h32 : sxSort (32 : UInt8).toNat = 1 := by decide +kernel
        have e : (if true = true then [(32 : UInt8)] else []) ++ (pxTxt p ++ pxTs true ps) ++ post = 32 :: (pxTxt p ++ (pxTs true ps ++ post)) := by simp
        rw [e]
        refine .step (r := pxTxt p ++ (pxTs true ps ++ post)) (f1 := f) (l1 := l) ?_ h2
        unfold rdStep
        rw [h32]
        rfl
end
mutual
/-- room enough to write it -/
def pxCost : Px → Nat
  | .mk k t ps => if k = 4 then 4 + pxCosts ps else ((pxSigns k t).getD []).length + 1
def pxCosts : List Px → Nat
  | [] => 0
  | p :: l => pxCost p + pxCosts l
end
mutual
/-- what can be read inside so many lists -/
def pxWf : Nat → Px → Prop
  | deep, .mk k t ps => if k = 4 then t.size = 0 ∧ deep < 64 ∧ pxWfs (deep + 1) ps else (∃ s, pxSigns k t = some s) ∧ ps = []
def pxWfs : Nat → List Px → Prop
  | _, [] => True
  | deep, p :: l => pxWf deep p ∧ pxWfs deep l
end
theorem pxCost_mk (k : Int) (t : ByteArray) (ps : List Px) : pxCost (.mk k t ps) = if k = 4 then 4 + pxCosts ps else ((pxSigns k t).getD []).length + 1 := by rw [pxCost]
theorem pxCosts_cons (p : Px) (l : List Px) : pxCosts (p :: l) = pxCost p + pxCosts l := by rw [pxCosts]
theorem pxCosts_nil : pxCosts [] = 0 := by rw [pxCosts]
theorem pxWf_mk (deep : Nat) (k : Int) (t : ByteArray) (ps : List Px) : pxWf deep (.mk k t ps) = if k = 4 then t.size = 0 ∧ deep < 64 ∧ pxWfs (deep + 1) ps else (∃ s, pxSigns k t = some s) ∧ ps = [] := by rw [pxWf]
theorem pxWfs_cons (deep : Nat) (p : Px) (l : List Px) : pxWfs deep (p :: l) = (pxWf deep p ∧ pxWfs deep l) := by rw [pxWfs]
theorem pxWfs_nil (deep : Nat) : pxWfs deep [] = True := by rw [pxWfs]
theorem pxCosts_app (l m : List Px) : pxCosts (l ++ m) = pxCosts l + pxCosts m := by
  induction l with
  | nil => simp [pxCosts_nil]
  | cons p l ih => rw [List.cons_append, pxCosts_cons, pxCosts_cons, ih]; omega
theorem pxWfs_snoc {deep : Nat} {l : List Px} {p : Px} (h : pxWfs deep l) (hp : pxWf deep p) : pxWfs deep (l ++ [p]) := by
  induction l with
  | nil => rw [List.nil_append, pxWfs_cons, pxWfs_nil]; exact ⟨hp, trivial⟩
  | cons a l ih => rw [pxWfs_cons] at h; rw [List.cons_append, pxWfs_cons]; exact ⟨h.1, ih h.2⟩
theorem pxWfs_mem {deep : Nat} {l : List Px} (h : pxWfs deep l) : ∀ p ∈ l, pxWf deep p := by
  induction l with
  | nil => intro p hp; cases hp
  | cons a l ih =>
    rw [pxWfs_cons] at h
    intro p hp
    rcases List.mem_cons.1 hp with rfl | hp
    · exact h.1
    · exact ih h.2 p hp
theorem pxCosts_mem {l : List Px} : ∀ p ∈ l, pxCost p ≤ pxCosts l := by
  induction l with
  | nil => intro p hp; cases hp
  | cons a l ih =>
    intro p hp
    rw [pxCosts_cons]
    rcases List.mem_cons.1 hp with rfl | hp
    · omega
    · have := ih p hp; omega
theorem wrPut_some {x : Wr} {s : List UInt8} (h : s.length + 1 ≤ x.room) : ∃ y, wrPut x s = some y ∧ x.room ≤ y.room + (s.length + 1) := by
  have hn : wrNeed x s ≤ 1 := by unfold wrNeed; split <;> omega
  unfold wrPut
  rw [if_pos (by omega)]
  exact ⟨_, rfl, by simp; omega⟩
mutual
theorem wr_of_wf : ∀ (p : Px) (deep : Nat) (x : Wr), pxWf deep p → pxCost p ≤ x.room → ∃ y, wrExpr p deep x = some y ∧ x.room ≤ y.room + pxCost p
  | .mk k t ps, deep, x, h, hc => by
    rw [pxWf_mk] at h
    rw [pxCost_mk] at hc ⊢
    rw [wrExpr_mk]
    by_cases hk : k = 4
    · rw [if_pos hk] at h hc ⊢
      rw [if_pos hk]
      obtain ⟨h1, h2, h3⟩ := h
      rw [if_neg (by omega)]
      obtain ⟨x1, e1, r1⟩ := wrPut_some (x := x) (s := [40]) (by simp; omega)
      simp at r1
      obtain ⟨x2, e2, r2⟩ := wrs_of_wf ps deep false x1 h3 (by omega)
      obtain ⟨x3, e3, r3⟩ := wrPut_some (x := x2) (s := [41]) (by simp; omega)
      simp at r3
      refine ⟨x3, ?_, by omega⟩
      unfold wrList
      rw [e1]; simp only [Option.bind_some]; rw [e2]; exact e3
    · rw [if_neg hk] at h hc ⊢
      rw [if_neg hk]
      obtain ⟨⟨s, hs⟩, rfl⟩ := h
      rw [hs] at hc ⊢
      simp only [List.length_nil, if_true]
      exact wrPut_some hc
theorem wrs_of_wf : ∀ (l : List Px) (deep : Nat) (more : Bool) (x : Wr), pxWfs (deep + 1) l → pxCosts l ≤ x.room → ∃ y, wrParts l deep more x = some y ∧ x.room ≤ y.room + pxCosts l
  | [], deep, more, x, _, _ => ⟨x, wrParts_nil .., by omega⟩
  | p :: l, deep, more, x, h, hc => by
    rw [pxWfs_cons] at h
    rw [pxCosts_cons] at hc ⊢
    obtain ⟨x1, e1, r1⟩ := wr_of_wf p (deep + 1) { x with gap := more } h.1 (show pxCost p ≤ x.room by omega)
    have r1' : x.room ≤ x1.room + pxCost p := r1
    obtain ⟨x2, e2, r2⟩ := wrs_of_wf l deep true x1 h.2 (by omega)
    refine ⟨x2, ?_, by omega⟩
    rw [wrParts_cons, e1]; exact e2
end
mutual
theorem txt_le : ∀ (p : Px), (pxTxt p).length + 1 ≤ pxCost p
  | .mk k t ps => by
    rw [pxTxt_mk, pxCost_mk]
    split
    · have := txts_le false ps
      simp; omega
    · omega
theorem txts_le : ∀ (more : Bool) (l : List Px), (pxTs more l).length ≤ pxCosts l
  | m, [] => by rw [pxTs_nil]; simp
  | m, p :: l => by
    rw [pxTs_cons, pxCosts_cons]
    have h1 := txt_le p
    have h2 := txts_le true l
    have h3 : (if m = true then [(32 : UInt8)] else []).length ≤ 1 := by split <;> simp
    rw [List.length_append, List.length_append]
    omega
end
theorem costs_len : ∀ (l : List Px), l.length ≤ pxCosts l
  | [] => by simp
  | p :: l => by
    rw [pxCosts_cons]
    have := costs_len l
    have := txt_le p
    rw [List.length_cons]; omega
theorem signs_text {k : Int} {t : ByteArray} {s : List UInt8} (h : pxSigns k t = some s) : t.size ≤ s.length := by
  have hl : t.data.toList.length = t.size := Array.length_toList
  unfold pxSigns at h
  (repeat' split at h) <;> first | (cases h; done) | (injection h with h; rw [← h]; simp; done) | (injection h with h; rw [← h]; simp; omega)
mutual
theorem small_of_wf : ∀ (p : Px) (deep : Nat), pxWf deep p → pxCost p ≤ 281474976710656 → pxSmall p
  | .mk k t ps, deep, h, hc => by
    rw [pxWf_mk] at h
    rw [pxCost_mk] at hc
    unfold pxSmall
    by_cases hk : k = 4
    · rw [if_pos hk] at h hc
      have := costs_len ps
      exact ⟨by omega, by omega, smalls_of_wf ps (deep + 1) h.2.2 (by omega)⟩
    · rw [if_neg hk] at h hc
      obtain ⟨⟨s, hs⟩, rfl⟩ := h
      rw [hs] at hc
      have := signs_text hs
      simp only [Option.getD_some] at hc
      exact ⟨by omega, by simp, by unfold pxSmallL; trivial⟩
theorem smalls_of_wf : ∀ (l : List Px) (deep : Nat), pxWfs deep l → pxCosts l ≤ 281474976710656 → pxSmallL l
  | [], _, _, _ => by unfold pxSmallL; trivial
  | p :: l, deep, h, hc => by
    rw [pxWfs_cons] at h
    rw [pxCosts_cons] at hc
    unfold pxSmallL
    exact ⟨small_of_wf p deep h.1 (by omega), smalls_of_wf l deep h.2 (by omega)⟩
end
/-- what is read so far can be printed, with the room that it takes -/
structure RdInv (x : List UInt8) (f : List (List Px)) (l : List Px) (M : Nat) : Prop where
  deep : f.length ≤ 64
  front : ∀ i (h : i < f.length), pxWfs i (f[i]'h)
  last : pxWfs f.length l
  cost : (f.map pxCosts).sum + pxCosts l + 2 * f.length + 2 * x.length ≤ M
theorem tw_split {p : UInt8 → Bool} (l : List UInt8) : (l.takeWhile p).length + (l.dropWhile p).length = l.length := by
  have := congrArg List.length (List.takeWhile_append_dropWhile (p := p) (l := l))
  rwa [List.length_append] at this
theorem tw_all {p : UInt8 → Bool} (l : List UInt8) : ∀ c ∈ l.takeWhile p, p c = true := fun c hc => by
  have := List.all_takeWhile (p := p) (l := l)
  exact List.all_eq_true.1 this c hc
theorem RdInv.push {x r : List UInt8} {f : List (List Px)} {l : List Px} {M : Nat} {k : Int} {t : ByteArray} {s : List UInt8} (h : RdInv x f l M) (hs : pxSigns k t = some s) (hk : k ≠ 4) (hn : s.length + 1 + 2 * r.length ≤ 2 * x.length) : RdInv r f (l ++ [.mk k t []]) M := by
  refine ⟨h.deep, h.front, pxWfs_snoc h.last ?_, ?_⟩
  · rw [pxWf_mk, if_neg hk]; exact ⟨⟨s, hs⟩, rfl⟩
  · rw [pxCosts_app, pxCosts_cons, pxCosts_nil, pxCost_mk, if_neg hk, hs]
    have := h.cost
    simp only [Option.getD_some]
    omega
theorem RdInv.step {c : UInt8} {t r : List UInt8} {f f1 : List (List Px)} {l l1 : List Px} {M : Nat} (h : RdInv (c :: t) f l M) (hs : rdStep c t f l = .ok (r, f1, l1)) : RdInv r f1 l1 M := by
  have hsl := sxSort_lt c.toNat
  have hcs := h.cost
  rw [List.length_cons] at hcs
  have hmove : ∀ {u : List UInt8}, u.length ≤ t.length + 1 → RdInv u f l M := fun hu => ⟨h.deep, h.front, h.last, by omega⟩
  have z0 := tw_split (p := fun x => sxSign x.toNat) (c :: t)
  have z1 := tw_split (p := fun x => sxSign x.toNat) t
  have z2 := tw_split (p := fun x => sxQuo x.toNat) t
  have z3 := tw_split (p := fun x => x != 10) (c :: t)
  rw [List.length_cons] at z0 z3
  unfold rdStep at hs
  have hso : ∀ k, sxSort c.toNat = k → (match sxSort c.toNat with
    | 3 => (c :: t).takeWhile (fun x => sxSign x.toNat) = c :: t.takeWhile (fun x => sxSign x.toNat)
    | 4 => (c :: t).takeWhile (fun x => sxSign x.toNat) = c :: t.takeWhile (fun x => sxSign x.toNat)
    | _ => True) := fun k hk => by
    split
    · next e => rw [List.takeWhile_cons, if_pos (by unfold sxSign; rw [e]; rfl)]
    · next e => rw [List.takeWhile_cons, if_pos (by unfold sxSign; rw [e]; rfl)]
    · trivial
  have hso := hso _ rfl
  split at hs
  · cases hs
  · cases hs; exact hmove (by omega)
  · cases hs; exact hmove (by omega)
  · next e =>
    cases hs
    rw [e] at hso
    have hso : (c :: t).takeWhile (fun x => sxSign x.toNat) = c :: t.takeWhile (fun x => sxSign x.toNat) := hso
    rw [hso, List.length_cons] at z0
    refine h.push (s := (c :: t).takeWhile fun x => sxSign x.toNat) ?_ (by decide) (by rw [hso, List.length_cons, List.length_cons]; omega)
    have hpl : sxPlain (bz ((c :: t).takeWhile fun x => sxSign x.toNat)) = true := by
      unfold sxPlain
      have e2 : (bz ((c :: t).takeWhile fun x => sxSign x.toNat)).data.toList = c :: t.takeWhile fun x => sxSign x.toNat := by rw [← hso]; rfl
      rw [e2]
      simp only [e, beq_self_eq_true, Bool.true_and]
      unfold sxAll
      rw [show (bz ((c :: t).takeWhile fun x => sxSign x.toNat)).data.toList = (c :: t).takeWhile fun x => sxSign x.toNat from rfl]
      exact List.all_eq_true.2 (tw_all _)
    unfold pxSigns
    rw [if_pos rfl, if_pos hpl]
    rfl
  · next e =>
    split at hs
    · next hn =>
      cases hs
      rw [e] at hso
      have hso : (c :: t).takeWhile (fun x => sxSign x.toNat) = c :: t.takeWhile (fun x => sxSign x.toNat) := hso
      rw [hso, List.length_cons] at z0
      refine h.push (s := (c :: t).takeWhile fun x => sxSign x.toNat) ?_ (by decide) (by rw [hso, List.length_cons, List.length_cons]; omega)
      unfold pxSigns
      rw [if_neg (by decide), if_pos rfl, if_pos hn]
      rfl
    · cases hs
  · next e =>
    split at hs
    · cases hs
    · next d r' hd =>
      split at hs
      · next h5 =>
        cases hs
        rw [hd, List.length_cons] at z2
        have hq : sxAll sxQuo (bz (t.takeWhile fun x => sxQuo x.toNat)) = true := by
          unfold sxAll
          exact List.all_eq_true.2 (tw_all _)
        cases hpl : sxPlain (bz (t.takeWhile fun x => sxQuo x.toNat)) with
        | true => exact h.push (s := t.takeWhile fun x => sxQuo x.toNat) (by unfold pxSigns; rw [if_pos rfl, if_pos hpl]; rfl) (by decide) (by rw [List.length_cons]; omega)
        | false => exact h.push (s := 124 :: ((t.takeWhile fun x => sxQuo x.toNat) ++ [124])) (by unfold pxSigns; rw [if_pos rfl, if_neg (by rw [hpl]; simp), if_pos hq]; rfl) (by decide) (by simp; omega)
      · cases hs
  · next e =>
    split at hs
    · cases hs
    · next hn =>
      cases hs
      refine h.push (s := 58 :: t.takeWhile fun x => sxSign x.toNat) ?_ (by decide) (by rw [List.length_cons, List.length_cons]; omega)
      have hk : sxKey (bz (t.takeWhile fun x => sxSign x.toNat)) = true := by
        unfold sxKey sxAll
        rw [show (bz (t.takeWhile fun x => sxSign x.toNat)).data.toList = t.takeWhile fun x => sxSign x.toNat from rfl]
        rw [Bool.and_eq_true]
        exact ⟨by simpa using hn, List.all_eq_true.2 (tw_all _)⟩
      unfold pxSigns
      rw [if_neg (by decide), if_neg (by decide), if_pos rfl, if_pos hk]
      rfl
  · next e =>
    split at hs
    · cases hs
    · next hn =>
      cases hs
      have hd := h.deep
      refine ⟨by simp; omega, fun i hi => ?_, by rw [pxWfs_nil]; trivial, ?_⟩
      · by_cases hil : i < f.length
        · rw [List.getElem_append_left hil]; exact h.front i hil
        · have : i = f.length := by simp at hi; omega
          subst this
          simp only [List.getElem_concat_length]
          exact h.last
      · simp [pxCosts_nil]
        omega
  · split at hs
    · cases hs
    · next y hy =>
      cases hs
      rcases List.eq_nil_or_concat f with rfl | ⟨f0, z, rfl⟩
      · cases hy
      · rw [List.concat_eq_append] at *
        simp at hy
        subst hy
        have hd := h.deep
        have hla := h.last
        rw [List.length_append, List.length_singleton] at hd hla
        rw [List.dropLast_concat]
        refine ⟨by omega, fun i hi => ?_, ?_, ?_⟩
        · have := h.front i (by simp; omega)
          rwa [List.getElem_append_left hi] at this
        · refine pxWfs_snoc ?_ ?_
          · have := h.front f0.length (by simp)
            simpa using this
          · rw [pxWf_mk, if_pos rfl]
            exact ⟨rfl, by omega, hla⟩
        · rw [pxCosts_app, pxCosts_cons, pxCosts_nil, pxCost_mk, if_pos rfl]
          simp at hcs
          omega
theorem RdInv.run {x : List UInt8} {f f2 : List (List Px)} {l l2 : List Px} {M : Nat} (hr : Rd x f l f2 l2) (h : RdInv x f l M) : RdInv [] f2 l2 M := by
  induction hr with
  | nil => exact h
  | step hs _ ih => exact ih (h.step hs)
/-- what is read can be printed -/
theorem read_wf {x : List UInt8} {P : List Px} (h : Rd x [] [] [] P) : ∀ p ∈ P, pxWf 0 p ∧ pxCost p ≤ 2 * x.length := by
  have h0 : RdInv x [] [] (2 * x.length) := ⟨by simp, fun i h => absurd h (by simp), by rw [pxWfs_nil]; trivial, by simp [pxCosts_nil]⟩
  have h1 := h0.run h
  intro p hp
  refine ⟨pxWfs_mem h1.last p hp, ?_⟩
  have := pxCosts_mem p hp
  have := h1.cost
  simp at this
  omega
theorem read_len {x : List UInt8} {P : List Px} (h : Rd x [] [] [] P) : P.length ≤ 2 * x.length := by
  have h0 : RdInv x [] [] (2 * x.length) := ⟨by simp, fun i h => absurd h (by simp), by rw [pxWfs_nil]; trivial, by simp [pxCosts_nil]⟩
  have h1 := (h0.run h).cost
  have := costs_len P
  simp at h1
  omega
/-- what Print answers is read as it was -/
theorem read_back {p : Px} {y : Wr} (h : wrExpr p 0 wrStart = some y) : Rd y.out [] [] [] [p] := by
  have h1 := (wrExpr_out p 0 wrStart y h).1
  have h2 := Rd_px p 0 wrStart y [] [] [] [] [p] h rfl (fun c r e => by cases e) (.nil _ _)
  rw [h1]
  simpa [wrStart] using h2
end Go.Proofs.Ytcpkejonpnmljaa
/- elenchusref03.Print. -/
namespace Go.Proofs.Ytcpkejonpnmljaa
open Go.RowKit

theorem Below.goR {u w w' : World} (hb : Below w.heap.size w w') (h : Below u.heap.size u w) : Below u.heap.size u w' := h.trans (hb.mono h.size)
theorem bz_app (a b : List UInt8) : bz a ++ bz b = bz (a ++ b) := by
  unfold bz
  apply ByteArray.ext
  simp
theorem run_bz (P : Program) (a b : List UInt8) (w : World) (h : a.length + b.length ≤ 9223372036854775807) : (Op.stringOp .add (bz a) (bz b)).run P w = .ok (.string (bz (a ++ b))) w := by
  rw [run_add _ _ _ _ (by rw [bz_size, bz_size]; exact h), bz_app]
theorem pxTs_snoc : ∀ (l : List Px) (m : Bool) (p : Px), pxTs m (l ++ [p]) = pxTs m l ++ ((if m || !l.isEmpty then [32] else []) ++ pxTxt p)
  | [], m, p => by simp [pxTs_cons, pxTs_nil]
  | a :: l, m, p => by
    rw [List.cons_append, pxTs_cons, pxTs_cons, pxTs_snoc l true p]
    simp
theorem pxWfs_get {deep : Nat} : ∀ {l : List Px} (i : Nat) (h : i < l.length), pxWfs deep l → pxWf deep (l[i]'h)
  | p :: l, 0, _, hs => by rw [pxWfs_cons] at hs; exact hs.1
  | p :: l, i + 1, h, hs => by rw [pxWfs_cons] at hs; exact pxWfs_get i (by simpa using h) hs.2
def RefR (deep : Nat) (p : Px) (r : Option (List UInt8)) : Prop := (pxWf deep p ∧ r = some (pxTxt p)) ∨ (¬ pxWf deep p ∧ r = none)
def RRef (r : Option (List UInt8)) (w : World) (e : Ending) (w' : World) : Prop := Below w.heap.size w w' ∧
  match r with
  | some s => e = .returned (.tuple #[.string (bz s), .int .i64 0])
  | none => e = .returned (.tuple #[.string ⟨#[]⟩, .int .i64 6])
def RefP (p : Px) : Prop := ∀ (N deep : Nat) (a : Int) (v : Value) (w : World), deep ≤ 64 → N ≤ w.heap.size → PxRow w N v p.parts →
  Calls Try.prog 13 #[.agg #[.int .i64 p.kind, .int .i64 a, .string p.text, v], .int .i64 (deep : Nat)] w fun e w' => ∃ r, RefR deep p r ∧ RRef r w e w'

set_option maxRecDepth 100000 in
set_option maxHeartbeats 3200000 in
theorem rprint_key (a : Int) (t : ByteArray) (pv : Option Addr) (cv deep : Nat) (w : World) (ok : Bool) (ld : Nat) (ht : t.size ≤ 9223372036854775807) (hpos : 0 < t.size) (he : t.toList.isEmpty = false) (hal : (((ld : Nat) : Int) == ((t.size : Nat) : Int)) = ok)
    (hru : ∀ w, Calls Try.prog 21 #[.string t, .int .i64 0] w fun e w' => e = .returned (.int .i64 (ld : Nat)) ∧ Below w.heap.size w w') (T2 : ByteArray) (ad3 : ∀ w, (Op.stringOp .add ⟨#[58]⟩ t).run Try.prog w = .ok (.string T2) w) :
    Calls Try.prog 13 #[.agg #[.int .i64 3, .int .i64 a, .string t, .slice pv 0 cv], .int .i64 (deep : Nat)] w fun e w' => Below w.heap.size w w' ∧ if ok = true then e = .returned (.tuple #[.string T2, .int .i64 0]) else e = .returned (.tuple #[.string ⟨#[]⟩, .int .i64 6]) := by
  have Hru := hid hru
  clear hru
  cases ok with
  | true =>
    go_enter Try.func13, Try.ntmps13
    go_upto_region 13 with fail
    generalize hW : World.alloc w _ = W1
    have hb1 : Below w.heap.size w W1 := by rw [← hW]; exact below1 _ _
    have hbx : W1.heap[w.heap.size]? = some (.cells #[.int .i64 3, .int .i64 a, .string t, .slice pv 0 cv] 30 (0, 0)) := by rw [← hW]; exact heap_alloc_new w _
    have HS : Hid (∀ w', Below W1.heap.size W1 w' → w'.cell? ⟨w.heap.size, 2, none⟩ = some (.string t) ∧ Below W1.heap.size W1 w') := fun w' hb =>
      ⟨(hb.cell (p := ⟨w.heap.size, 2, none⟩) (lt_of_heap hbx)).trans (cell_of_row W1 _ 2 _ _ (0, 0) hbx), hb⟩
    have HB1 := hid hb1
    clear hW hb1 hbx
    go_region_held3 (fun w' => w'.cell? ⟨w.heap.size, 2, none⟩ = some (.string t) ∧ Below W1.heap.size W1 w')
      (first | exact HS.out _ (Below.drew (Below.refl _ _)) | (refine HS.out _ (Below.goR hb ?_); go_split_ands; assumption))
      (first
        | (go_at_call 21; refine (Hru.out _).mono ?_; rintro e w2 ⟨rfl, hb⟩))
    all_goals
      have HBT := hid (HB1.out.trans ((Below.goR hb (Below.drew (Below.refl _ _))).mono HB1.out.size))
      have c2 := (HS.out _ (Below.goR hb (Below.drew (Below.refl _ _)))).1
      clear hb
      go_split_ands
      go_wp2_with fail
      go_ret2
      exact ⟨HBT.out, rfl⟩
  | false =>
    go_enter Try.func13, Try.ntmps13
    go_upto_region 13 with fail
    generalize hW : World.alloc w _ = W1
    have hb1 : Below w.heap.size w W1 := by rw [← hW]; exact below1 _ _
    have hbx : W1.heap[w.heap.size]? = some (.cells #[.int .i64 3, .int .i64 a, .string t, .slice pv 0 cv] 30 (0, 0)) := by rw [← hW]; exact heap_alloc_new w _
    have HS : Hid (∀ w', Below W1.heap.size W1 w' → w'.cell? ⟨w.heap.size, 2, none⟩ = some (.string t) ∧ Below W1.heap.size W1 w') := fun w' hb =>
      ⟨(hb.cell (p := ⟨w.heap.size, 2, none⟩) (lt_of_heap hbx)).trans (cell_of_row W1 _ 2 _ _ (0, 0) hbx), hb⟩
    have HB1 := hid hb1
    clear hW hb1 hbx
    go_region_held3 (fun w' => w'.cell? ⟨w.heap.size, 2, none⟩ = some (.string t) ∧ Below W1.heap.size W1 w')
      (first | exact HS.out _ (Below.drew (Below.refl _ _)) | (refine HS.out _ (Below.goR hb ?_); go_split_ands; assumption))
      (first
        | (go_at_call 21; refine (Hru.out _).mono ?_; rintro e w2 ⟨rfl, hb⟩))
    all_goals
      have HBT := hid (HB1.out.trans ((Below.goR hb (Below.drew (Below.refl _ _))).mono HB1.out.size))
      clear hb
      go_split_ands
      go_wp2_with fail
      go_ret2
      exact ⟨HBT.out, rfl⟩

set_option maxRecDepth 100000 in
set_option maxHeartbeats 3200000 in
/-- of what is no list -/
theorem rprint_leaf (k a : Int) (t : ByteArray) (pv : Option Addr) (cv deep : Nat) (w : World) (ht : t.size ≤ 281474976710656) (hk4 : k ≠ 4) :
    Calls Try.prog 13 #[.agg #[.int .i64 k, .int .i64 a, .string t, .slice pv 0 cv], .int .i64 (deep : Nat)] w (RRef (pxSigns k t) w) := by
  have ht' : t.size ≤ 9223372036854775807 := by omega
  have hk4' : (k != 4) = true := by simpa using hk4
  have hk4'' : (k == 4) = false := by simpa using hk4
  have hp := fun w => rplain_any t w ht'
  have hn := fun w => rnumeral_any t w ht'
  have hq := fun w => rquotable_any t w ht'
  have hru := fun w => rrun_any t w ht'
  have ad1 : ∀ w, (Op.stringOp .add ⟨#[124]⟩ t).run Try.prog w = .ok (.string (⟨#[124]⟩ ++ t)) w := fun w => run_add _ _ _ w (by show 1 + t.size ≤ _; omega)
  have ad2 : ∀ w, (Op.stringOp .add (⟨#[124]⟩ ++ t) ⟨#[124]⟩).run Try.prog w = .ok (.string (⟨#[124]⟩ ++ t ++ ⟨#[124]⟩)) w := fun w => run_add _ _ _ w (by rw [ByteArray.size_append]; show 1 + t.size + 1 ≤ _; omega)
  have ad3 : ∀ w, (Op.stringOp .add ⟨#[58]⟩ t).run Try.prog w = .ok (.string (⟨#[58]⟩ ++ t)) w := fun w => run_add _ _ _ w (by show 1 + t.size ≤ _; omega)
  have l1 : (⟨#[124]⟩ ++ t ++ ⟨#[124]⟩ : ByteArray) = bz (124 :: (t.data.toList ++ [124])) := by
    unfold bz; apply ByteArray.ext; simp
  have l2 : (⟨#[58]⟩ ++ t : ByteArray) = bz (58 :: t.data.toList) := by
    unfold bz; apply ByteArray.ext; simp
  have L1 := hid l1; have L2 := hid l2
  clear l1 l2
  generalize (⟨#[124]⟩ ++ t ++ ⟨#[124]⟩ : ByteArray) = T1 at *
  generalize (⟨#[124]⟩ ++ t : ByteArray) = T0 at *
  generalize (⟨#[58]⟩ ++ t : ByteArray) = T2 at *
  obtain ⟨r, hr⟩ : ∃ r, r = pxSigns k t := ⟨_, rfl⟩
  rw [← hr]
  unfold pxSigns at hr
  by_cases h1 : k = 1
  · subst h1
    simp only [if_true] at hr
    cases hpl : sxPlain t with
    | true =>
      simp only [hpl, if_true] at hr hp
      have Hp := hid hp; have Hr := hid hr
      clear hp hn hq hru hr
      go_enter Try.func13, Try.ntmps13
      go_wp2_with fail
      refine (Hp.out _).mono ?_
      rintro e w1 ⟨rfl, hb1⟩
      have hbx := (hb1.block w.heap.size (by simp)).trans (heap_alloc_new w (.cells #[.int .i64 1, .int .i64 a, .string t, .slice pv 0 cv] 30))
      have q2 := cell_of_row w1 _ 2 _ _ (0, 0) hbx
      have HB := hid ((below1 w _).trans (hb1.mono (by simp : w.heap.size ≤ _)))
      clear hb1 hbx
      go_wp2_with fail
      go_ret2
      refine ⟨HB.out, ?_⟩
      rw [Hr.out]; rfl
    | false =>
      simp only [hpl, Bool.false_eq_true, if_false] at hr hp
      cases hqq : sxAll sxQuo t with
      | true =>
        simp only [hqq, if_true] at hr hq
        have Hp := hid hp; have Hr := hid hr; have Hq := hid hq
        clear hp hn hq hru hr
        go_enter Try.func13, Try.ntmps13
        go_wp2_with fail
        refine (Hp.out _).mono ?_
        rintro e w1 ⟨rfl, hb1⟩
        have hbx := (hb1.block w.heap.size (by simp)).trans (heap_alloc_new w (.cells #[.int .i64 1, .int .i64 a, .string t, .slice pv 0 cv] 30))
        have q2 := cell_of_row w1 _ 2 _ _ (0, 0) hbx
        have HB := hid ((below1 w _).trans (hb1.mono (by simp : w.heap.size ≤ _)))
        clear hb1 hbx
        go_wp2_with fail
        refine (Hq.out _).mono ?_
        rintro e w2 ⟨rfl, rfl⟩
        go_wp2_with fail
        go_ret2
        refine ⟨HB.out, ?_⟩
        rw [Hr.out, L1.out]; rfl
      | false =>
        simp only [hqq, Bool.false_eq_true, if_false] at hr hq
        have Hp := hid hp; have Hr := hid hr; have Hq := hid hq
        clear hp hn hq hru hr
        go_enter Try.func13, Try.ntmps13
        go_wp2_with fail
        refine (Hp.out _).mono ?_
        rintro e w1 ⟨rfl, hb1⟩
        have hbx := (hb1.block w.heap.size (by simp)).trans (heap_alloc_new w (.cells #[.int .i64 1, .int .i64 a, .string t, .slice pv 0 cv] 30))
        have q2 := cell_of_row w1 _ 2 _ _ (0, 0) hbx
        have HB := hid ((below1 w _).trans (hb1.mono (by simp : w.heap.size ≤ _)))
        clear hb1 hbx
        go_wp2_with fail
        refine (Hq.out _).mono ?_
        rintro e w2 ⟨rfl, rfl⟩
        go_wp2_with fail
        go_ret2
        refine ⟨HB.out, ?_⟩
        rw [Hr.out]; rfl
  · have h1' : (k == 1) = false := by simpa using h1
    by_cases h2 : k = 2
    · subst h2
      rw [if_neg (by decide), if_pos rfl] at hr
      cases hb : sxNum t with
      | true =>
        simp only [hb, if_true] at hr hn
        have Hn := hid hn; have Hr := hid hr
        clear hp hn hq hru hr
        go_enter Try.func13, Try.ntmps13
        go_wp2_with fail
        refine (Hn.out _).mono ?_
        rintro e w1 ⟨rfl, rfl⟩
        go_wp2_with fail
        go_ret2
        refine ⟨below1 _ _, ?_⟩
        rw [Hr.out]; rfl
      | false =>
        simp only [hb, Bool.false_eq_true, if_false] at hr hn
        have Hn := hid hn; have Hr := hid hr
        clear hp hn hq hru hr
        go_enter Try.func13, Try.ntmps13
        go_wp2_with fail
        refine (Hn.out _).mono ?_
        rintro e w1 ⟨rfl, rfl⟩
        go_wp2_with fail
        go_ret2
        refine ⟨below1 _ _, ?_⟩
        rw [Hr.out]; rfl
    · have h2' : (k == 2) = false := by simpa using h2
      by_cases h3 : k = 3
      · subst h3
        rw [if_neg (by decide), if_neg (by decide), if_pos rfl] at hr
        by_cases h0 : t.size = 0
        · have he := sx_emp1 h0
          have hf : Hid (r = none) := by
            unfold Hid; rw [hr]; unfold sxKey; rw [sx_empty h0]; rfl
          clear hp hn hq hru hr
          go_enter Try.func13, Try.ntmps13
          go_wp2_with fail
          go_quiet (fail)
          go_wp2_with fail
          go_ret2
          refine ⟨below_drewN (below1 _ _) _, ?_⟩
          rw [hf.out]; rfl
        · have hpos := Nat.pos_of_ne_zero h0
          have he := sx_emp2 hpos
          have hky : sxKey t = sxAll sxSign t := by
            obtain ⟨c, l, e, -⟩ := sx_list hpos
            unfold sxKey; rw [e]; rfl
          rw [hky] at hr
          have hal : sxAll sxSign t = (((sxLead sxSign t : Nat) : Int) == ((t.size : Nat) : Int)) := by
            rw [sxAll_lead, Bool.eq_iff_iff]; simp; omega
          generalize sxAll sxSign t = ok at *
          generalize sxLead sxSign t = ld at *
          exact (rprint_key a t pv cv deep w ok ld (by omega) hpos he hal.symm hru T2 ad3).mono fun e w' h => by
            rw [hr]
            refine ⟨h.1, ?_⟩
            have h2 := h.2
            cases ok with
            | true => simp only [if_true] at h2 ⊢; rw [h2, L2.out]
            | false => simp only [Bool.false_eq_true, if_false] at h2 ⊢; exact h2
      · have h3' : (k == 3) = false := by simpa using h3
        rw [if_neg h1, if_neg h2, if_neg h3] at hr
        have Hr := hid hr
        clear hp hn hq hru hr
        go_enter Try.func13, Try.ntmps13
        go_wp2_with fail
        go_ret2
        refine ⟨below1 _ _, ?_⟩
        rw [Hr.out]; rfl
end Go.Proofs.Ytcpkejonpnmljaa
/- elenchusref03.Print of any expression. -/
namespace Go.Proofs.Ytcpkejonpnmljaa
open Go.RowKit

theorem ref_wf_leaf {deep : Nat} {k : Int} {t : ByteArray} (hk : k ≠ 4) : RefR deep (.mk k t []) (pxSigns k t) := by
  unfold RefR
  rw [pxWf_mk, if_neg hk, pxTxt_mk, if_neg hk]
  cases h : pxSigns k t with
  | none => exact .inr ⟨fun e => (by obtain ⟨⟨s, hs⟩, -⟩ := e; cases hs), rfl⟩
  | some s => exact .inl ⟨⟨⟨s, rfl⟩, rfl⟩, rfl⟩
theorem costs_take {l : List Px} (j : Nat) : pxCosts (l.take j) ≤ pxCosts l := by
  have := congrArg pxCosts (List.take_append_drop j l)
  rw [pxCosts_app] at this; omega

set_option maxRecDepth 100000 in
set_option maxHeartbeats 6400000 in
theorem rprint_step (p : Px) (hsm : pxSmall p) (hcost : pxCost p ≤ 100000) (ih : ∀ i (h : i < p.parts.length), RefP (p.parts[i]'h)) : RefP p := by
  intro N deep a v w hd hN hrow
  obtain ⟨k, t, ps⟩ := p
  simp only [Px.kind, Px.text, Px.parts] at ih hrow ⊢
  unfold pxSmall at hsm
  obtain ⟨hs1, hs2, hs3⟩ := hsm
  obtain ⟨pv, cv, rfl⟩ := hrow.form
  by_cases hk : k = 4
  · subst hk
    rw [pxCost_mk, if_pos rfl] at hcost
    by_cases ht : t.size = 0
    · obtain rfl := bz_empty ht
      by_cases h64 : deep = 64
      · subst h64
        have hR : RefR 64 (.mk 4 (bz []) ps) none := .inr ⟨fun e => by rw [pxWf_mk, if_pos rfl] at e; omega, rfl⟩
        have HR := hid hR
        clear hR ih hrow
        show Calls Try.prog 13 #[.agg #[.int .i64 4, .int .i64 a, .string ⟨#[]⟩, .slice pv ps.length cv], .int .i64 64] w _
        go_enter Try.func13, Try.ntmps13
        go_wp2_with fail
        go_ret2
        exact ⟨_, HR.out, below1 _ _, rfl⟩
      · have hdq : ((deep : Int) == 64) = false := by simp; omega
        have hsz : ∀ j, (pxTs false (ps.take j)).length ≤ 100000 := fun j => by
          have h1 := txts_le false (ps.take j)
          have h2 := costs_take (l := ps) j
          omega
        have htx : ∀ i (h : i < ps.length), (pxTxt (ps[i]'h)).length ≤ 100000 := fun i h => by
          have h1 := txt_le (ps[i]'h)
          have h2 := pxCosts_mem (l := ps) _ (List.getElem_mem h)
          omega
        have Hsz := hid hsz; have Htx := hid htx; have Hrow := hid hrow
        obtain ⟨n, hn⟩ : ∃ n, n = ps.length := ⟨_, rfl⟩
        rw [← hn] at Hrow ⊢
        have hni : (n : Int) ≤ 281474976710656 := by omega
        have Hn := hid hn
        clear hrow hn hsz htx
        show Calls Try.prog 13 #[.agg #[.int .i64 4, .int .i64 a, .string ⟨#[]⟩, .slice pv n cv], .int .i64 (deep : Nat)] w _
        go_enter Try.func13, Try.ntmps13
        go_wp2_with fail
        generalize hW : World.alloc w _ = W1
        have HB1 : Hid (Below w.heap.size w W1) := by unfold Hid; rw [← hW]; exact below1 _ _
        have e40 : (⟨#[40]⟩ : ByteArray) = bz (40 :: pxTs false (ps.take 0)) := by rw [List.take_zero, pxTs_nil]; rfl
        rw [e40]
        clear hW e40
        go_loopw [6, 72] (fun s i wr => ∃ j : Nat, j ≤ n ∧ i = .int .i64 (j : Nat) ∧ s = .string (bz (40 :: pxTs false (ps.take j))) ∧ Hid (pxWfs (deep + 1) (ps.take j)) ∧ Hid (Below w.heap.size w wr)) (fun _ i _ => n - (RowKit.intOf i).toNat)
        case atStart => exact ⟨0, Nat.zero_le _, rfl, rfl, by unfold Hid; rw [List.take_zero, pxWfs_nil]; trivial, HB1⟩
        case round =>
          obtain ⟨j, hj, rfl, rfl, hwf, hbr⟩ := hrel
          by_cases hlt : j < n
          · have hlt' : (j : Int) < (n : Int) := by omega
            have hlp : j < ps.length := by have := Hn.out; omega
            obtain ⟨rb, off, ai, vi, hpp, hrb, k0, k1, k2, k3, krow⟩ := (Hrow.out.stay (hbr.out.mono hN)).at j hlp
            subst hpp
            have kr := krow
            obtain ⟨pi, ci, rfl⟩ := kr.form
            have hih := fun W h1 h2 => ih j hlp N (deep + 1) ai (.slice pi (ps[j]'hlp).parts.length ci) W (by omega) h1 h2
            have htk : ps.take (j + 1) = ps.take j ++ [ps[j]'hlp] := List.take_succ_eq_append_getElem hlp
            have hts : pxTs false (ps.take (j + 1)) = pxTs false (ps.take j) ++ ((if 0 < j then [32] else []) ++ pxTxt (ps[j]'hlp)) := by
              rw [htk, pxTs_snoc]
              have : (false || !(ps.take j).isEmpty) = decide (0 < j) := by
                cases j with
                | zero => simp
                | succ j =>
                  have : (ps.take (j + 1)).isEmpty = false := by
                    cases ps with
                    | nil => simp at hlp
                    | cons p ps => rfl
                  rw [this]; simp
              rw [this]
              simp only [decide_eq_true_eq]
            have hl1 := Hsz.out j; have hl2 := Htx.out j hlp
            have hwn : pxWf (deep + 1) (ps[j]'hlp) → pxWfs (deep + 1) (ps.take (j + 1)) := fun h => by rw [htk]; exact pxWfs_snoc hwf.out h
            have hwno : ¬ pxWf (deep + 1) (ps[j]'hlp) → RefR deep (.mk 4 (bz []) ps) none := fun h => .inr ⟨fun e => by rw [pxWf_mk, if_pos rfl] at e; exact h (pxWfs_get j hlp e.2.2), rfl⟩
            generalize ps[j]'hlp = X at *
            obtain ⟨K, T, qs⟩ := X
            simp only [Px.kind, Px.text, Px.parts] at *
            have Hih := hid hih; have Hk := hid krow; have Hts := hid hts; have Hwn := hid hwn; have Hwno := hid hwno
            clear hih krow kr hts hwn hwno htk
            go_upto_region 22 with fail
            generalize hW : World.alloc wr _ = W3
            have hb3 : Below wr.heap.size wr W3 := by rw [← hW]; exact below1 _ _
            have hbx : W3.heap[wr.heap.size]? = some (.cells #[.int .i64 K, .int .i64 ai, .string T, .slice pi qs.length ci] 30 (0, 0)) := by rw [← hW]; exact heap_alloc_new wr _
            have g0 := cell_of_row W3 _ 0 _ _ (0, 0) hbx; have g1 := cell_of_row W3 _ 1 _ _ (0, 0) hbx; have g2 := cell_of_row W3 _ 2 _ _ (0, 0) hbx; have g3 := cell_of_row W3 _ 3 _ _ (0, 0) hbx
            have hzr : N ≤ wr.heap.size := Nat.le_trans hN hbr.out.size
            have hd1 : ((deep + 1 : Nat) : Int) = (deep : Int) + 1 := by omega
            have hcall := Hih.out W3 (Nat.le_trans hzr hb3.size) (Hk.out.stay (hb3.mono hzr))
            rw [hd1] at hcall
            have Hcall := hid hcall; have HB3 := hid (hbr.out.trans (hb3.mono hbr.out.size))
            clear hW hb3 hbx hcall Hih Hk k0 k1 k2 k3
            have hdb : (deep : Int) ≤ 64 := by omega
            go_wp2_with fail
            refine Hcall.out.mono ?_
            rintro e w4 ⟨r, hr, hb4, h4⟩
            have HB4 := hid (HB3.out.trans (hb4.mono HB3.out.size))
            rcases hr with ⟨hw, rfl⟩ | ⟨hw, rfl⟩
            · simp only at h4
              subst h4
              have Hw := hid (Hwn.out hw)
              have hl3 := Hsz.out (j + 1)
              by_cases hj0 : 0 < j
              · have hj0' : decide ((0 : Int) < (j : Int)) = true := by simp; omega
                have hts2 := Hts.out
                rw [if_pos hj0] at hts2
                have ad1 : ∀ w, (Op.stringOp .add (bz (40 :: pxTs false (ps.take j))) ⟨#[32]⟩).run Try.prog w = .ok (.string (bz (40 :: pxTs false (ps.take j) ++ [32]))) w := fun w => run_bz _ _ [32] w (by simp; omega)
                have ad2 : ∀ w, (Op.stringOp .add (bz (40 :: pxTs false (ps.take j) ++ [32])) (bz (pxTxt (.mk K T qs)))).run Try.prog w = .ok (.string (bz (40 :: pxTs false (ps.take (j + 1))))) w := fun w => by
                  rw [run_bz _ _ _ w (by simp; omega), hts2]
                  simp
                obtain ⟨S1, hS1⟩ : ∃ S1, S1 = bz (40 :: pxTs false (ps.take (j + 1))) := ⟨_, rfl⟩
                rw [← hS1] at ad2
                generalize bz (40 :: pxTs false (ps.take j) ++ [32]) = S3 at *
                generalize bz (40 :: pxTs false (ps.take j)) = S0 at *
                generalize bz (pxTxt (.mk K T qs)) = S2 at *
                have HS1 := hid hS1
                clear hb4 hts2 Hts hS1 hl1 hl2 hl3 Hwn Hwno
                go_wp2_with fail
                go_roundw
                case rel => exact ⟨j + 1, by omega, by go_num, by rw [HS1.out], Hw, HB4⟩
                case measure => (simp [RowKit.intOf] <;> omega)
              · have hts2 := Hts.out
                rw [if_neg hj0] at hts2
                have ad2 : ∀ w, (Op.stringOp .add (bz (40 :: pxTs false (ps.take j))) (bz (pxTxt (.mk K T qs)))).run Try.prog w = .ok (.string (bz (40 :: pxTs false (ps.take (j + 1))))) w := fun w => by
                  rw [run_bz _ _ _ w (by simp; omega), hts2]
                  simp
                have hj1 : j + 1 = 1 := by omega
                rw [hj1] at ad2 Hw
                obtain rfl : j = 0 := by omega
                obtain ⟨S1, hS1⟩ : ∃ S1, S1 = bz (40 :: pxTs false (ps.take 1)) := ⟨_, rfl⟩
                rw [← hS1] at ad2
                generalize bz (40 :: pxTs false (ps.take 0)) = S0 at *
                generalize bz (pxTxt (.mk K T qs)) = S2 at *
                have HS1 := hid hS1; have Ad2 := hid ad2
                clear hb4 hts2 Hts hS1 hj0 hj1 hl1 hl2 hl3 Hwn Hwno
                have ad2 := Ad2.out
                go_wp2_with fail
                go_roundw
                case rel => exact ⟨1, by omega, by go_num, by rw [HS1.out], Hw, HB4⟩
                case measure => (simp [RowKit.intOf] <;> omega)
            · simp only at h4
              subst h4
              have HR := hid (Hwno.out hw)
              clear hb4
              go_wp2_with fail
              go_ret2
              exact ⟨_, HR.out, HB4.out, rfl⟩
          · obtain rfl : j = n := by omega
            have hfin : ps.take j = ps := by rw [Hn.out]; exact List.take_length
            have hl3 := Hsz.out j
            rw [hfin] at hwf hl3 ⊢
            have hR : RefR deep (.mk 4 (bz []) ps) (some (40 :: (pxTs false ps ++ [41]))) := .inl ⟨by rw [pxWf_mk, if_pos rfl]; exact ⟨rfl, by omega, hwf.out⟩, by rw [pxTxt_mk, if_pos rfl]⟩
            have ad3 : ∀ w, (Op.stringOp .add (bz (40 :: pxTs false ps)) ⟨#[41]⟩).run Try.prog w = .ok (.string (bz (40 :: (pxTs false ps ++ [41])))) w := fun w => run_bz _ _ [41] w (by simp; omega)
            have HR := hid hR
            clear hR hwf
            go_wp2_with fail
            go_ret2
            exact ⟨_, HR.out, hbr.out, rfl⟩
    · have he := sx_emp2 (Nat.pos_of_ne_zero ht)
      have hR : RefR deep (.mk 4 t ps) none := .inr ⟨fun e => by rw [pxWf_mk, if_pos rfl] at e; exact ht e.1, rfl⟩
      have HR := hid hR
      clear hR ih hrow
      go_enter Try.func13, Try.ntmps13
      go_wp2_with fail
      go_ret2
      exact ⟨_, HR.out, below1 _ _, rfl⟩
  · cases ps with
    | nil => exact (rprint_leaf k a t pv cv deep w hs1 hk).mono fun e w' h => ⟨_, ref_wf_leaf hk, h⟩
    | cons q qs =>
      have hR : RefR deep (.mk k t (q :: qs)) none := .inr ⟨fun e => by rw [pxWf_mk, if_neg hk] at e; exact absurd e.2 (by simp), rfl⟩
      have HR := hid hR
      have hk4 : (k != 4) = true := by simpa using hk
      have hlen : (0 : Int) < (((q :: qs).length : Nat) : Int) := by simp
      clear hR ih hrow hs2 hs3 hcost
      obtain ⟨m, hm⟩ : ∃ m, m = (q :: qs).length := ⟨_, rfl⟩
      rw [← hm] at hlen ⊢
      clear hm
      go_enter Try.func13, Try.ntmps13
      go_wp2_with fail
      go_ret2
      exact ⟨_, HR.out, below1 _ _, rfl⟩
mutual
theorem rprint_any : ∀ (p : Px), pxSmall p → pxCost p ≤ 100000 → RefP p
  | .mk k t ps, h, hc => by
    have h' := h
    unfold pxSmall at h'
    by_cases hk : k = 4
    · subst hk
      have hc' := hc
      rw [pxCost_mk, if_pos rfl] at hc'
      exact rprint_step (.mk 4 t ps) h hc (rprints_any ps h'.2.2 (by omega))
    · cases ps with
      | nil => exact rprint_step (.mk k t []) h hc fun i hi => absurd hi (by simp [Px.parts])
      | cons q qs =>
        intro N deep a v w hd hN hrow
        obtain ⟨pv, cv, rfl⟩ := hrow.form
        have hR : RefR deep (.mk k t (q :: qs)) none := .inr ⟨fun e => by rw [pxWf_mk, if_neg hk] at e; exact absurd e.2 (by simp), rfl⟩
        have HR := hid hR
        have hk4 : (k != 4) = true := by simpa using hk
        have hlen : (0 : Int) < (((q :: qs).length : Nat) : Int) := by simp
        simp only [Px.kind, Px.text, Px.parts]
        clear hR hrow h h' hc
        obtain ⟨m, hm⟩ : ∃ m, m = (q :: qs).length := ⟨_, rfl⟩
        rw [← hm] at hlen ⊢
        clear hm
        go_enter Try.func13, Try.ntmps13
        go_wp2_with fail
        go_ret2
        exact ⟨_, HR.out, below1 _ _, rfl⟩
theorem rprints_any : ∀ (l : List Px), pxSmallL l → pxCosts l ≤ 100000 → ∀ i (h : i < l.length), RefP (l[i]'h)
  | p :: l, hs, hc, 0, _ => by rw [pxCosts_cons] at hc; unfold pxSmallL at hs; exact rprint_any p hs.1 (by omega)
  | p :: l, hs, hc, i + 1, h => by rw [pxCosts_cons] at hc; unfold pxSmallL at hs; exact rprints_any l hs.2 (by omega) i (by simpa using h)
end
end Go.Proofs.Ytcpkejonpnmljaa
/- elenchusref03.Few. Made by gen_sxfew.py. -/
namespace Go.Proofs.Ytcpkejonpnmljaa
open Go.RowKit

mutual
/-- how great an expression is -/
def pxFew : Px → Nat
  | .mk _ t ps => 1 + t.size / 100 + pxFews ps
def pxFews : List Px → Nat
  | [] => 0
  | p :: l => pxFew p + pxFews l
end
mutual
/-- texts and rows of parts fit into a machine -/
def pxFit : Px → Prop
  | .mk _ t ps => t.size ≤ 9223372036854775807 ∧ ps.length ≤ 9223372036854775807 ∧ pxFitL ps
def pxFitL : List Px → Prop
  | [] => True
  | p :: l => pxFit p ∧ pxFitL l
end
theorem pxFew_mk (k : Int) (t : ByteArray) (ps : List Px) : pxFew (.mk k t ps) = 1 + t.size / 100 + pxFews ps := by rw [pxFew]
theorem pxFews_cons (p : Px) (l : List Px) : pxFews (p :: l) = pxFew p + pxFews l := by rw [pxFews]
theorem pxFews_nil : pxFews [] = 0 := by rw [pxFews]
theorem pxFews_app (l m : List Px) : pxFews (l ++ m) = pxFews l + pxFews m := by
  induction l with
  | nil => simp [pxFews_nil]
  | cons p l ih => rw [List.cons_append, pxFews_cons, pxFews_cons, ih]; omega
/-- blocks that are no numbers stay as they are -/
structure FrI (B : Nat) (w w' : World) : Prop where
  bel : Below B w w'
  kept : ∀ (b : Nat) (cs : Array Value) (t : TypeId) (fr : Nat × Nat), w.heap[b]? = some (Obj.cells cs t fr) → t ≠ 3 → w'.heap[b]? = w.heap[b]?
theorem FrI.trans {B : Nat} {w w' w'' : World} (h : FrI B w w') (h' : FrI B w' w'') : FrI B w w'' := ⟨h.bel.trans h'.bel, fun b cs t fr hb h1 => by
  have e := h.kept b cs t fr hb h1
  exact (h'.kept b cs t fr (e.trans hb) h1).trans e⟩
theorem FrI.of_below {B : Nat} {w w' : World} (hB : B ≤ w.heap.size) (h : Below w.heap.size w w') : FrI B w w' := ⟨h.mono hB, fun b _ _ _ hb _ => h.block b (lt_of_heap hb)⟩
theorem FrI.refl (B : Nat) (w : World) : FrI B w w := ⟨Below.refl _ _, fun _ _ _ _ _ _ => rfl⟩
theorem FrI.setL {B gl : Nat} {w0 w : World} {cs : Array Value} {fr : Nat × Nat} (h : FrI B w0 w) (hb : w.heap[gl]? = some (.cells cs 3 fr)) (hB : B ≤ gl) (u : Value) : FrI B w0 (w.setCell ⟨gl, 0, none⟩ u) :=
  h.trans ⟨(Below.refl B w).setCell (p := ⟨gl, 0, none⟩) hB u, fun k cs' t fr' hk h1 => heap_setCell_other w ⟨gl, 0, none⟩ k u (by
    rintro rfl
    rw [hk] at hb
    injection hb with hb
    injection hb with _ h4
    exact h1 h4)⟩
def LeftAt (w : World) (gl : Nat) (L : Int) : Prop := w.heap[gl]? = some (.cells #[.int .i64 L] 3 (0, 0))
def RFew (B : Nat) (w : World) (gl F : Nat) (L : Int) (e : Ending) (w' : World) : Prop := FrI B w w' ∧ if (F : Int) ≤ L then e = .returned (.bool true) ∧ LeftAt w' gl (L - F) else e = .returned (.bool false)
def FewP (p : Px) : Prop := ∀ (B gl : Nat) (L a : Int) (v : Value) (w : World), 0 ≤ L → L ≤ 500 → B ≤ gl → B ≤ w.heap.size → LeftAt w gl L → PxRow w B v p.parts →
  Calls Try.prog 11 #[.agg #[.int .i64 p.kind, .int .i64 a, .string p.text, v], .pointer (some ⟨gl, 0, none⟩)] w (RFew B w gl (pxFew p) L)
set_option maxRecDepth 100000 in
set_option maxHeartbeats 6400000 in
theorem few_step (p : Px) (hf1 : p.text.size ≤ 9223372036854775807) (hf2 : p.parts.length ≤ 9223372036854775807) (ih : ∀ i (h : i < p.parts.length), FewP (p.parts[i]'h)) : FewP p := by
  intro B gl L a v w hL0 hL5 hlow hB hleft hrow
  obtain ⟨k, t, ps⟩ := p
  simp only [Px.kind, Px.text, Px.parts] at hf1 hf2 ih hrow ⊢
  rw [pxFew_mk]
  obtain ⟨pv, cv, rfl⟩ := hrow.form
  have hti : (t.size : Int) ≤ 9223372036854775807 := by omega
  have htq : 0 ≤ (t.size : Int) / 100 ∧ (t.size : Int) / 100 ≤ 92233720368547758 := by omega
  have htn : (t.size : Int) / 100 = ((t.size / 100 : Nat) : Int) := by omega
  have Hrow := hid hrow; have HL := hid hleft; have Htn := hid htn
  clear hrow hleft htn
  go_enter Try.func11, Try.ntmps11
  go_upto_region 1 with fail
  generalize hW : World.alloc w _ = W1
  have hb1 : Below w.heap.size w W1 := by rw [← hW]; exact below1 _ _
  have hbox : W1.heap[w.heap.size]? = some (.cells #[.int .i64 k, .int .i64 a, .string t, .slice pv ps.length cv] 30 (0, 0)) := by rw [← hW]; exact heap_alloc_new w _
  have hl1 : LeftAt W1 gl L := (hb1.block gl (lt_of_heap HL.out)).trans HL.out
  have HS : Hid (∀ w', Below W1.heap.size W1 w' → w'.cell? ⟨w.heap.size, 2, none⟩ = some (.string t) ∧ w'.cell? ⟨gl, 0, none⟩ = some (.int .i64 L)) := fun w' hb =>
    ⟨(hb.cell (p := ⟨w.heap.size, 2, none⟩) (lt_of_heap hbox)).trans (cell_of_row W1 _ 2 _ _ (0, 0) hbox), (hb.cell (p := ⟨gl, 0, none⟩) (lt_of_heap hl1)).trans (cell_of_row W1 _ 0 _ _ (0, 0) hl1)⟩
  have HBW := hid (FrI.of_below hB hb1)
  have HL := hid hl1
  have Hnew := hid hbox
  clear hW hb1 hbox hl1
  refine wp_region_facts (w0 := W1) 11 1 [7, 8, 9, 10, 11, 12, 13, 14, 15, 16, 17] [undef, undef, undef, undef, undef, undef, undef, undef, undef, undef, undef]
    (fun i => match i with | 0 => sxEq (.pointer (some ⟨gl, 0, none⟩)) | 1 => sxEq (.pointer (some ⟨gl, 0, none⟩)) | 2 => sxEq (.pointer (some ⟨gl, 0, none⟩)) | 3 => sxEq (.int .i64 L) | 4 => sxEq (.int .i64 (L - 1)) | 5 => sxEq (.pointer (some ⟨w.heap.size, 2, none⟩)) | 6 => sxEq (.string t) | 7 => sxEq (.int .i64 (t.size : Nat)) | 8 => sxEq (.int .i64 ((t.size : Int) / 100)) | 9 => sxEq (.int .i64 (L - 1 - (t.size : Int) / 100)) | _ => sxEq (.pointer (some ⟨gl, 0, none⟩))) [] (by kernel_rfl) (by kernel_rfl) (by kernel_rfl) (by kernel_rfl) (by decide) rfl (by kernel_rfl) rfl (by simp) ?he1 ?_ ?_ ?_
  case he1 => simp only [putAll, Act.put, List.setIfInBounds_toArray, List.set_cons_zero, List.set_cons_succ]
  · intro i hi; simp at hi
  · intro i o hi ho vs wx hvl hb hdep K hK
    have hvs := len11 hvl
    obtain ⟨s7, s8, s9, s10, s11, s12, s13, s14, s15, s16, s17, rfl⟩ := hvs
    clear hvl
    have hk := HS.out wx hb
    obtain ⟨q1, q2⟩ := hk
    rcases i with _ | _ | _ | _ | _ | _ | _ | _ | _ | _ | _ | i
    all_goals (simp only [List.getElem?_toArray, List.getElem?_cons_zero, List.getElem?_cons_succ, Option.some.injEq] at ho)
    all_goals try (subst ho)
    all_goals try simp only [putAll, Act.put, List.setIfInBounds_toArray, List.set_cons_zero, List.set_cons_succ]
    · go_simp
      have hK' := hK.out
      simp only [putAll, Act.put, List.setIfInBounds_toArray, List.set_cons_zero, List.set_cons_succ] at hK'
      exact hK' _ _ rfl (Below.refl _ _) (by simp)
    · go_simp
      have hK' := hK.out
      simp only [putAll, Act.put, List.setIfInBounds_toArray, List.set_cons_zero, List.set_cons_succ] at hK'
      exact hK' _ _ rfl (Below.refl _ _) (by simp)
    · have e1 : s8 = _ := hdep ⟨1, .data⟩ (by simp) rfl
      subst e1
      go_simp
      have hK' := hK.out
      simp only [putAll, Act.put, List.setIfInBounds_toArray, List.set_cons_zero, List.set_cons_succ] at hK'
      exact hK' _ _ rfl (Below.refl _ _) (by simp)
    · have e2 : s9 = _ := hdep ⟨2, .data⟩ (by simp) rfl
      subst e2
      go_simp
      have hK' := hK.out
      simp only [putAll, Act.put, List.setIfInBounds_toArray, List.set_cons_zero, List.set_cons_succ] at hK'
      exact hK' _ _ rfl (Below.refl _ _) (by simp)
    · have e3 : s10 = _ := hdep ⟨3, .data⟩ (by simp) rfl
      subst e3
      go_simp
      have hK' := hK.out
      simp only [putAll, Act.put, List.setIfInBounds_toArray, List.set_cons_zero, List.set_cons_succ] at hK'
      exact hK' _ _ (congrArg (Value.int .i64) (IntWalk.i64_in _ (by omega))) (Below.refl _ _) (by simp)
    · go_simp
      have hK' := hK.out
      simp only [putAll, Act.put, List.setIfInBounds_toArray, List.set_cons_zero, List.set_cons_succ] at hK'
      exact hK' _ _ rfl (Below.refl _ _) (by simp)
    · have e5 : s12 = _ := hdep ⟨5, .data⟩ (by simp) rfl
      subst e5
      go_simp
      have hK' := hK.out
      simp only [putAll, Act.put, List.setIfInBounds_toArray, List.set_cons_zero, List.set_cons_succ] at hK'
      exact hK' _ _ rfl (Below.refl _ _) (by simp)
    · have e6 : s13 = _ := hdep ⟨6, .data⟩ (by simp) rfl
      subst e6
      go_simp
      have hK' := hK.out
      simp only [putAll, Act.put, List.setIfInBounds_toArray, List.set_cons_zero, List.set_cons_succ] at hK'
      exact hK' _ _ rfl (Below.refl _ _) (by simp)
    · have e7 : s14 = _ := hdep ⟨7, .data⟩ (by simp) rfl
      subst e7
      go_simp
      have hK' := hK.out
      simp only [putAll, Act.put, List.setIfInBounds_toArray, List.set_cons_zero, List.set_cons_succ] at hK'
      exact hK' _ _ (congrArg (Value.int .i64) (IntWalk.i64_in _ (by omega))) (Below.refl _ _) (by simp)
    · have e4 : s11 = _ := hdep ⟨4, .data⟩ (by simp) rfl
      subst e4
      have e8 : s15 = _ := hdep ⟨8, .data⟩ (by simp) rfl
      subst e8
      go_simp
      have hK' := hK.out
      simp only [putAll, Act.put, List.setIfInBounds_toArray, List.set_cons_zero, List.set_cons_succ] at hK'
      exact hK' _ _ (congrArg (Value.int .i64) (IntWalk.i64_in _ (by omega))) (Below.refl _ _) (by simp)
    · have e0 : s7 = _ := hdep ⟨0, .data⟩ (by simp) rfl
      subst e0
      go_simp
      have hK' := hK.out
      simp only [putAll, Act.put, List.setIfInBounds_toArray, List.set_cons_zero, List.set_cons_succ] at hK'
      exact hK' _ _ rfl (Below.refl _ _) (by simp)
    · omega
  · intro vs wx hvl hb hf hdist
    have hvs := len11 hvl
    obtain ⟨s7, s8, s9, s10, s11, s12, s13, s14, s15, s16, s17, rfl⟩ := hvs
    have f9 : s16 = .int .i64 (L - 1 - (t.size : Int) / 100) := hf 9 (by decide)
    have f10 : s17 = .pointer (some ⟨gl, 0, none⟩) := hf 10 (by decide)
    subst f9 f10
    clear hf hdist hvl
    have hlx : wx.heap[gl]? = some (.cells #[.int .i64 L] 3 (0, 0)) := (hb.block gl (lt_of_heap HL.out)).trans HL.out
    have hcl := cell_of_row wx gl 0 _ _ (0, 0) hlx
    have hfz := frozen_of_row wx gl 0 _ _ hlx
    have HLx := hid hlx; have HBx := hid (FrI.of_below (Nat.le_trans hB HBW.out.bel.size) hb)
    clear hb hlx
    refine wpAny_one (i := 11) (by kernel_rfl) rfl ?_
    intro K hK
    try simp only [putAll, Act.put, List.setIfInBounds_toArray, List.set_cons_zero, List.set_cons_succ]
    go_simp
    have hK' := hK.out
    apply hK'
    clear hK hK'
    refine wpAny_done (by kernel_rfl) ?_ _
    try simp only [putAll, Act.put, List.setIfInBounds_toArray, List.set_cons_zero, List.set_cons_succ]
    generalize hW : World.setCell wx _ _ = W2
    have hl2 : LeftAt W2 gl (L - 1 - (t.size : Int) / 100) := by
      rw [← hW]
      have := heap_setCell_same wx gl 0 _ _ (.int .i64 (L - 1 - (t.size : Int) / 100)) HLx.out
      simpa [LeftAt] using this
    have hb2 : FrI B W1 W2 := by rw [← hW]; exact HBx.out.setL HLx.out hlow _
    have HL2 := hid hl2; have HB2 := hid hb2
    clear hW hl2 hb2 HLx HBx hcl hfz
    have hbx2 := (HB2.out.kept _ _ _ _ Hnew.out (by decide)).trans Hnew.out
    have q3 : W2.cell? ⟨w.heap.size, 3, none⟩ = some (.slice pv ps.length cv) := cell_of_row W2 _ 3 _ _ (0, 0) hbx2
    have HBT := hid (HBW.out.trans HB2.out)
    obtain ⟨L1, hL1⟩ : ∃ L1, L1 = L - 1 - (t.size : Int) / 100 := ⟨_, rfl⟩
    have hL1b : L1 ≤ 499 ∧ -92233720368547760 ≤ L1 := by omega
    have HL1 := hid (hL1.trans (by rw [Htn.out]))
    rw [← hL1] at HL2
    clear hL1 htq HBW HL Hnew HS HB2 hbx2
    obtain ⟨n, hn⟩ : ∃ n, n = ps.length := ⟨_, rfl⟩
    rw [← hn] at q3 Hrow
    have hni : (n : Int) ≤ 9223372036854775807 := by omega
    have Hn := hid hn
    clear hn
    go_wp2_with fail
    go_loopw [21] (fun i wr => ∃ (j : Nat) (c : Int), j ≤ n ∧ i = .int .i64 (j : Nat) ∧ Hid (LeftAt wr gl c) ∧ Hid (c = L1 - (pxFews (ps.take j) : Nat)) ∧ c ≤ 500 ∧ -92233720368547760 ≤ c ∧ Hid (FrI B w wr)) (fun i _ => n - (RowKit.intOf i).toNat)
    case atStart => exact ⟨0, L1, Nat.zero_le _, rfl, HL2, by unfold Hid; rw [List.take_zero, pxFews_nil]; simp, by omega, hL1b.2, HBT⟩
    case round =>
      obtain ⟨j, c, hj, rfl, hlf, hc, hc5, hcl, hbr⟩ := hrel
      by_cases hlt : j < n
      · have hlt' : (j : Int) < (n : Int) := by omega
        have hlp : j < ps.length := by have := Hn.out; omega
        obtain ⟨rb, off, ai, vi, hpp, hrb, k0, k1, k2, k3, krow⟩ := (Hrow.out.stay hbr.out.bel).at j hlp
        subst hpp
        have kr := krow
        obtain ⟨pi, ci, rfl⟩ := kr.form
        have hih := fun W h1 h2 h3 h4 => ih j hlp B gl c ai (.slice pi (ps[j]'hlp).parts.length ci) W h1 hc5 hlow h2 h3 h4
        have htk : pxFews (ps.take (j + 1)) = pxFews (ps.take j) + pxFew (ps[j]'hlp) := by
          rw [List.take_succ_eq_append_getElem hlp, pxFews_app, pxFews_cons, pxFews_nil]; omega
        have hall : pxFews (ps.take (j + 1)) ≤ pxFews ps := by
          have := congrArg pxFews (List.take_append_drop (j + 1) ps)
          rw [pxFews_app] at this; omega
        generalize ps[j]'hlp = X at *
        obtain ⟨K, T, qs⟩ := X
        simp only [Px.kind, Px.text, Px.parts] at *
        have Htk := hid htk; have Hall := hid hall; have Hih := hid hih; have Hk := hid krow
        clear htk hall hih krow kr
        go_upto_region 5 with fail
        generalize hW : World.alloc wr _ = W3
        have hb3 : Below wr.heap.size wr W3 := by rw [← hW]; exact below1 _ _
        have hbx : W3.heap[wr.heap.size]? = some (.cells #[.int .i64 K, .int .i64 ai, .string T, .slice pi qs.length ci] 30 (0, 0)) := by rw [← hW]; exact heap_alloc_new wr _
        have hl3 : LeftAt W3 gl c := (hb3.block gl (lt_of_heap hlf.out)).trans hlf.out
        have m0 := cell_of_row W3 gl 0 _ _ (0, 0) hl3
        have g0 := cell_of_row W3 _ 0 _ _ (0, 0) hbx; have g1 := cell_of_row W3 _ 1 _ _ (0, 0) hbx; have g2 := cell_of_row W3 _ 2 _ _ (0, 0) hbx; have g3 := cell_of_row W3 _ 3 _ _ (0, 0) hbx
        have HL3 := hid hl3; have HB3 := hid (hbr.out.trans (FrI.of_below (Nat.le_trans hB hbr.out.bel.size) hb3))
        have Hk3 := hid (Hk.out.stay (hb3.mono (Nat.le_trans hB hbr.out.bel.size)))
        clear hW hb3 hbx hl3 Hk k0 k1 k2 k3
        by_cases hneg : c < 0
        · have hneg' : decide (c < 0) = true := by simpa using hneg
          have hno : Hid (¬ ((1 + t.size / 100 + pxFews ps : Nat) : Int) ≤ L) := by
            have h1 := hc.out; have h2 := HL1.out; have h3 := Hall.out; have h4 := Htk.out
            unfold Hid; omega
          clear Hih
          go_wp2_with fail
          go_ret
          refine ⟨HB3.out, ?_⟩
          rw [if_neg (by have := hno.out; omega)]; rfl
        · have hneg' : decide (c < 0) = false := by simpa using hneg
          have hcall := Hih.out W3 (by omega) (Nat.le_trans hB HB3.out.bel.size) HL3.out Hk3.out
          have Hcall := hid hcall
          clear hcall Hih
          go_wp2_with fail
          refine Hcall.out.mono ?_
          rintro e w4 ⟨hb4, h4⟩
          have HB4 := hid (HB3.out.trans hb4)
          by_cases hfx : ((pxFew (.mk K T qs) : Nat) : Int) ≤ c
          · rw [if_pos hfx] at h4
            obtain ⟨rfl, hl4⟩ := h4
            have HL4 := hid hl4
            have hcn : Hid (c - ((pxFew (.mk K T qs) : Nat) : Int) = L1 - (pxFews (ps.take (j + 1)) : Nat)) := by
              have h1 := hc.out; have h4 := Htk.out
              unfold Hid; omega
            have hc' : c - ((pxFew (.mk K T qs) : Nat) : Int) ≤ 500 := by omega
            have hc'' : -92233720368547760 ≤ c - ((pxFew (.mk K T qs) : Nat) : Int) := by omega
            clear hb4 hl4
            go_wp2_with fail
            go_roundw
            case rel => exact ⟨j + 1, _, by omega, by go_num, HL4, hcn, hc', hc'', HB4⟩
            case measure => (simp [RowKit.intOf] <;> omega)
          · rw [if_neg hfx] at h4
            obtain rfl := h4
            have hno : Hid (¬ ((1 + t.size / 100 + pxFews ps : Nat) : Int) ≤ L) := by
              have h1 := hc.out; have h2 := HL1.out; have h3 := Hall.out; have h4 := Htk.out
              unfold Hid; omega
            clear hb4
            go_wp2_with fail
            go_ret
            refine ⟨HB4.out, ?_⟩
            rw [if_neg (by have := hno.out; omega)]; rfl
      · obtain rfl : j = n := by omega
        have hall : Hid (c = L - ((1 + t.size / 100 + pxFews ps : Nat) : Int)) := by
          have h1 := hc.out; have h2 := HL1.out; have h3 := Hn.out
          rw [h3, List.take_length] at h1
          unfold Hid; omega
        have m0 := cell_of_row wr gl 0 _ _ (0, 0) hlf.out
        clear hc
        by_cases hp : 0 ≤ c
        · have hp' : decide (0 ≤ c) = true := by simpa using hp
          have hyes : Hid (((1 + t.size / 100 + pxFews ps : Nat) : Int) ≤ L) := by have := hall.out; unfold Hid; omega
          go_wp2_with fail
          go_ret
          refine ⟨hbr.out, ?_⟩
          rw [if_pos hyes.out, ← hall.out]; exact ⟨rfl, hlf.out⟩
        · have hp' : decide (0 ≤ c) = false := by simpa using hp
          have hno : Hid (¬ ((1 + t.size / 100 + pxFews ps : Nat) : Int) ≤ L) := by have := hall.out; unfold Hid; omega
          go_wp2_with fail
          go_ret
          refine ⟨hbr.out, ?_⟩
          rw [if_neg (by have := hno.out; omega)]; rfl

mutual
theorem few_any : ∀ (p : Px), pxFit p → FewP p
  | .mk k t ps, h => by
    unfold pxFit at h
    exact few_step (.mk k t ps) h.1 h.2.1 (fews_any ps h.2.2)
theorem fews_any : ∀ (l : List Px), pxFitL l → ∀ i (h : i < l.length), FewP (l[i]'h)
  | p :: l, hs, 0, _ => by unfold pxFitL at hs; exact few_any p hs.1
  | p :: l, hs, i + 1, h => by unfold pxFitL at hs; exact fews_any l hs.2 i (by simpa using h)
end
end Go.Proofs.Ytcpkejonpnmljaa
