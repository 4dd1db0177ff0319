/- Texts put together: PrintSmall, ParseBad, IsSize, Parse, RefParse. -/
import Derived.Test.YtippcalhcnjghaaDoorParsesCardM9
import Derived.Lib.Strings
/- whole.Print of numbers of one or two digits. -/
namespace Go.Proofs.YtippcalhcnjghaaDoor
open Go.RowKit Big Go.Lib

theorem digits_small (n : Nat) (h : n < 100) (w : World) :
    Calls Tryd.prog 64 #[.int .u32 (n : Nat)] w fun e w' => e = .returned (.string ⟨(Lib.decDigits n).toArray⟩) ∧ w' = w := by
  go_enter Tryd.func64, Tryd.ntmps64
  go_wp2_with (first | (go_at_call 100; refine (Tryd.internal_strconv_small n h _).mono ?_; rintro e w' ⟨rfl, rfl⟩) | go_in)
  go_ret
  exact ⟨rfl, rfl⟩

def RStr (l : List UInt8) (w : World) (e : Ending) (w' : World) : Prop := e = .returned (.string ⟨l.toArray⟩) ∧ Below w.heap.size w w'

theorem decDigits_len (n : Nat) (h : n < 100) : (Lib.decDigits n).length ≤ 2 := by
  have : ∀ m : Fin 100, (Lib.decDigits m.val).length ≤ 2 := by decide +kernel
  exact this ⟨n, h⟩

set_option maxRecDepth 100000 in
set_option maxHeartbeats 1600000 in
theorem Print_small (v : Value) (neg : Bool) (n : Nat) (w : World) (h : RawAt w v (sg neg n)) (h0 : 0 < n) (hn : n < 100) :
    Calls Tryd.prog 35 #[v] w (RStr ((if neg then [45] else []) ++ Lib.decDigits n) w) := by
  obtain ⟨neg', s, l, rfl, ha, hs, hl, hz⟩ := h
  have hv : val W l = n := by have := congrArg Int.natAbs hz; rw [sg_natAbs, sg_natAbs] at this; exact this.symm
  have hneg : neg' = neg := by
    rw [hv] at hz
    have a := sg_neg neg n (by omega)
    have b := sg_neg neg' n (by omega)
    rw [hz, b] at a; exact a
  subst hneg
  have hsl := strip_dig W2 hs
  rw [hv] at hsl
  have hD : dig T n = [n] := dig_one T2 h0 (by unfold T; omega)
  have ht := fun W' hb => trim_val s l W' (ha.below (w' := W') hb)
  have hst := fun W' hb => (ha.below (w' := W') hb).strip
  rw [hsl] at hst
  rw [hsl] at ht
  have Ht : Hid (∀ W', Below w.heap.size w W' → Calls Tryd.prog 38 #[s] W' (fun e w' => e = .returned (cutTo s (dig W n).length) ∧ w' = W')) := ht
  have Hst : Hid (∀ W', Below w.heap.size w W' → At W' .u64 (cutTo s (dig W n).length) (dig W n)) := hst
  have HD := hid hD
  have hnW : sz W n ≤ 1 := sz_word (by unfold W; omega)
  have hlen := decDigits_len n hn
  clear ht hst hsl hD hv hz hs hl ha
  obtain ⟨L, hL⟩ : ∃ L, L = (if neg' then [45] else []) ++ Lib.decDigits n := ⟨_, rfl⟩
  rw [← hL]
  have HL := hid hL
  clear hL
  generalize hu : cutTo s (dig W n).length = u at *
  clear hu
  go_enter Tryd.func35, Tryd.ntmps35
  go_wp2_with fail
  refine (Ht.out _ (below1 _ _)).mono ?_
  rintro e w1 ⟨rfl, rfl⟩
  go_wp2_with fail
  refine (split_any u _ _ (Hst.out _ (below1 _ _)) (small_dig W2 _) (by show sz W n ≤ _; omega)).mono ?_
  rintro e w2 ⟨v2, rfl, ho2, hb2⟩
  rw [val_dig W2] at ho2
  go_wp2_with fail
  refine (tens_any _ v2 n _ ho2 (by unfold sz; rw [HD.out]; simp)).mono ?_
  rintro e w3 ⟨v3, rfl, ho3, hg3⟩
  have hb3 : Below (w.heap.size + 1) w2 w3 := by
    have hz := hb2.size
    rw [size_alloc] at hz
    cases hvb : v2.ownBlock with
    | none => rw [hvb] at hg3; exact (Below.refl _ w2).grown hg3 hz (fun k hk => by cases hk)
    | some g => rw [hvb] at hg3; exact grown_below hg3 (by have := ho2.row g hvb; rwa [size_alloc] at this) hz
  have bw3 : Below (w.heap.size + 1) (w.alloc (.cells #[.bool neg', s] 25)) w3 := (hb2.mono (B' := w.heap.size + 1) (by rw [size_alloc]; omega)).trans hb3
  have bw : Below w.heap.size w w3 := (below1 _ _).trans (bw3.mono (by omega))
  have c0 : w3.cell? ⟨w.heap.size, 0, none⟩ = some (.bool neg') := (bw3.cell (p := ⟨w.heap.size, 0, none⟩) (by show w.heap.size < _; omega)).trans (by simp [go_sem])
  have z3 : w.heap.size + 1 ≤ w3.heap.size := by have := bw3.size; rwa [size_alloc] at this
  rw [HD.out] at ho3
  obtain ⟨g, cap, rfl, hgB, hgl, hcap, hcap2⟩ := ho3.shape (by simp)
  have e0 := (ho3.cell 0 (by simp)).1
  simp only [List.getElem_cons_zero] at e0
  simp only [List.length_cons, List.length_nil, Nat.zero_add] at hcap ⊢
  unfold maxLen at hcap2
  clear ho3 hg3 ho2 hb2 hb3 HD Ht Hst bw3
  have c0' : ∀ o, (w3.alloc o).cell? ⟨w.heap.size, 0, none⟩ = some (.bool neg') := fun o => ((below1 w3 o).cell (p := ⟨w.heap.size, 0, none⟩) (by show w.heap.size < _; omega)).trans c0
  have e0' : ∀ o, (w3.alloc o).cell? ⟨g, 0, none⟩ = some (.int .u32 (n : Nat)) := fun o => ((below1 w3 o).cell (p := ⟨g, 0, none⟩) hgl).trans e0
  have hbl : IsBuilder 74 5 w3.heap.size w3.heap.size [] (w3.alloc (.cells #[.pointer none, .slice none 0 0] 74)) :=
    Or.inl ⟨Nat.le_refl _, .slice none 0 0, heap_alloc_new w3 _, World.ownsRow_nil _ _ _ _, by simp [Value.ownBlock]⟩
  have Hbl := hid hbl
  have hsz : (⟨(Lib.decDigits n).toArray⟩ : ByteArray).size ≤ 2 := hlen
  clear c0 e0 hbl hlen
  cases neg'
  · go_wp2_with fail
    refine (digits_small n hn _).mono ?_
    rintro e w4 ⟨rfl, rfl⟩
    go_wp2_with fail
    refine (WriteString_any _ _ _ _ _ Hbl.out (by simp; omega) (by simp)).mono ?_
    rintro e w5 ⟨rfl, hb5, hbel5⟩
    go_wp2_with fail
    refine wp_loop_rounds 1 ?_
    rw [rounds_succ]
    go_wp2_with fail
    refine (Tryd.Builder_String_any w3.heap.size w3.heap.size (Lib.decDigits n) w5 hb5 (by have := hbel5.size; simp at this; omega)).mono ?_
    rintro e w6 ⟨rfl, hbel6⟩
    go_wp2_with fail
    go_ret
    exact ⟨by rw [HL.out]; rfl, bw.trans ((((below1 w3 _).trans hbel5).trans hbel6).mono (by omega))⟩
  · go_wp2_with fail
    refine (WriteByte_any _ _ _ _ _ Hbl.out (by simp) (by simp)).mono ?_
    rintro e w4 ⟨rfl, hb4, hbel4⟩
    have e0'' : w4.cell? ⟨g, 0, none⟩ = some (.int .u32 (n : Nat)) := (hbel4.cell (p := ⟨g, 0, none⟩) hgl).trans (e0' _)
    clear e0' c0'
    go_wp2_with fail
    refine (digits_small n hn _).mono ?_
    rintro e w4' ⟨rfl, rfl⟩
    go_wp2_with fail
    refine (WriteString_any _ _ _ _ _ hb4 (by simp; omega) (by have := hbel4.size; simp at this; omega)).mono ?_
    rintro e w5 ⟨rfl, hb5, hbel5⟩
    go_wp2_with fail
    refine wp_loop_rounds 1 ?_
    rw [rounds_succ]
    go_wp2_with fail
    refine (Tryd.Builder_String_any w3.heap.size w3.heap.size (45 :: Lib.decDigits n) w5 hb5 (by have := hbel5.size; have := hbel4.size; simp at this; omega)).mono ?_
    rintro e w6 ⟨rfl, hbel6⟩
    go_wp2_with fail
    go_ret
    exact ⟨by rw [HL.out]; rfl, bw.trans (((((below1 w3 _).trans hbel4).trans hbel5).trans hbel6).mono (by omega))⟩
end Go.Proofs.YtippcalhcnjghaaDoor
/- whole.Parse of the text -0. -/
namespace Go.Proofs.YtippcalhcnjghaaDoor
open Go.RowKit Big Go.Lib

set_option maxHeartbeats 800000 in
theorem isSize_zero (w : World) : Calls Tryd.prog 57 #[.string ⟨#[48]⟩] w fun e w' => e = .returned (.bool true) ∧ w' = w := by
  go_enter Tryd.func57, Tryd.ntmps57
  go_wp2_with fail
  refine wp_loop_rounds 2 ?_
  rw [rounds_succ]
  go_wp2
  rw [rounds_succ]
  go_wp2
  go_ret
  exact ⟨rfl, rfl⟩

def RParse (z : Int) (c : Int) (w : World) (e : Ending) (w' : World) : Prop := ∃ v, e = .returned (.tuple #[v, .int .i64 c]) ∧ IntAt w' v z ∧ Below w.heap.size w w'

set_option maxHeartbeats 800000 in
theorem Parse_bad (w : World) : Calls Tryd.prog 33 #[.string ⟨#[45, 48]⟩] w (RParse 0 6 w) := by
  have hc := fun W' => Tryd.strings_CutPrefix ⟨#[45, 48]⟩ ⟨#[45]⟩ W'
  have e1 : (Lib.trimPrefix [45, 48] [45] : List UInt8) = [48] := by decide
  have e2 : Lib.hasPrefix ([45, 48] : List UInt8) [45] = true := by decide
  have hc' : ∀ W', Calls Tryd.prog 56 #[.string ⟨#[45, 48]⟩, .string ⟨#[45]⟩] W' fun e w' => e = .returned (.tuple #[.string ⟨#[48]⟩, .bool true]) ∧ w' = W' := fun W' => by
    have := hc W'
    rw [show (⟨#[45, 48]⟩ : ByteArray).data.toList = [45, 48] from rfl, show (⟨#[45]⟩ : ByteArray).data.toList = [45] from rfl, e1, e2] at this
    exact this
  have Hc := hid hc'
  clear hc hc' e1 e2
  go_enter Tryd.func33, Tryd.ntmps33
  go_wp2_with fail
  refine (Hc.out _).mono ?_
  rintro e w1 ⟨rfl, rfl⟩
  go_wp2_with fail
  refine (isSize_zero _).mono ?_
  rintro e w2 ⟨rfl, rfl⟩
  go_wp2_with fail
  go_goals
  exact bodyPost_ret (v := .tuple #[.agg #[.bool false, .slice none 0 0], .int .i64 6]) (by simp [results, Tryd.results33, go_sem]) rfl ⟨_, rfl, IntAt.zero _, below1 _ _⟩
end Go.Proofs.YtippcalhcnjghaaDoor
/- whole.isSize of any text. -/
namespace Go.Proofs.YtippcalhcnjghaaDoor
open Go.RowKit Big
open Go.Lib (toList_data)

def digB (c : UInt8) : Bool := decide (48 ≤ c.toNat) && decide (c.toNat ≤ 57)
/-- "0", or digits that do not begin with 0 -/
def szB (s : ByteArray) : Bool := decide (0 < s.size) && !(decide (1 < s.size) && decide ((s.data.toList.headD 0).toNat = 48)) && s.data.toList.all digB
theorem digB_iff (c : UInt8) : digB c = true ↔ 48 ≤ c.toNat ∧ c.toNat ≤ 57 := by unfold digB; simp
theorem all_digits {s : ByteArray} : s.data.toList.all digB = true ↔ ∀ k (h : k < s.size), 48 ≤ (s[k]'h).toNat ∧ (s[k]'h).toNat ≤ 57 := by
  rw [List.all_eq_true]
  constructor
  · intro h k hk
    exact (digB_iff _).1 (h (s[k]'hk) (by
      have : s[k]'hk = s.data.toList[k]'(by simpa using hk) := rfl
      rw [this]; exact List.getElem_mem _))
  · intro h c hc
    obtain ⟨k, hk, rfl⟩ := List.getElem_of_mem hc
    exact (digB_iff _).2 (h k (by simpa using hk))

set_option maxRecDepth 100000 in
set_option maxHeartbeats 1600000 in
theorem isSize_any (s : ByteArray) (w : World) (hs : s.size ≤ 9223372036854775807) : Calls Tryd.prog 57 #[.string s] w fun e w' => e = .returned (.bool (szB s)) ∧ w = w' := by
  obtain ⟨r, hr⟩ : ∃ r, r = szB s := ⟨_, rfl⟩
  rw [← hr]
  have Hr := hid hr
  clear hr
  by_cases h0 : s.size = 0
  · have he : s.data.toList = [] := List.eq_nil_of_length_eq_zero (by simpa using h0)
    have hf : Hid (r = false) := by unfold Hid; rw [Hr.out]; unfold szB; simp [h0]
    have he2 : s.toList.isEmpty = true := by rw [toList_data, he]; rfl
    clear Hr he
    go_enter Tryd.func57, Tryd.ntmps57
    go_wp2_with fail
    all_goals
      go_ret
      exact ⟨by rw [hf.out]; rfl, rfl⟩
  · have hlen : 0 < s.size := Nat.pos_of_ne_zero h0
    have hll : s.data.toList.length = s.size := Array.length_toList
    have he2 : s.toList.isEmpty = false := by
      rw [toList_data]
      cases hl : s.data.toList with
      | nil => rw [hl] at hll; simp at hll; omega
      | cons a l => rfl
    have hhd : s.data.toList.headD 0 = s[0]'hlen := by
      rw [List.headD_eq_head?_getD, List.head?_eq_getElem?, List.getElem?_eq_getElem (by omega)]
      rfl
    by_cases hz : 1 < s.size ∧ (s[0]'hlen).toNat = 48
    · obtain ⟨h1, h48⟩ := hz
      have hf : Hid (r = false) := by unfold Hid; rw [Hr.out]; unfold szB; rw [hhd]; simp [h1, h48]
      have hb : (((s[0]'hlen).toNat : Int) == 48) = true := beq_iff_eq.2 (by omega)
      clear Hr hhd h48
      go_enter Tryd.func57, Tryd.ntmps57
      go_wp2_with fail
      go_ret
      exact ⟨by rw [hf.out]; rfl, rfl⟩
    · have hr2 : Hid (r = s.data.toList.all digB) := by
        unfold Hid; rw [Hr.out]; unfold szB; rw [hhd]
        by_cases h1 : 1 < s.size
        · have : ¬ (s[0]'hlen).toNat = 48 := fun e => hz ⟨h1, e⟩
          simp [hlen, h1, this]
        · simp [hlen, h1]
      clear Hr hhd hll
      have hz2 : ¬ 1 < s.size ∨ (1 < s.size ∧ (((s[0]'hlen).toNat : Int) == 48) = false) := by
        by_cases h1 : 1 < s.size
        · exact Or.inr ⟨h1, beq_eq_false_iff_ne.2 (fun e => hz ⟨h1, by omega⟩)⟩
        · exact Or.inl h1
      clear hz
      rcases hz2 with h1 | ⟨h1, hb⟩
      all_goals
        go_enter Tryd.func57, Tryd.ntmps57
        go_wp2_with fail
        go_loop [18] (fun i => ∃ k : Nat, k ≤ s.size ∧ i = .int .i64 (k : Nat) ∧ Hid (∀ j (h : j < s.size), j < k → 48 ≤ (s[j]'h).toNat ∧ (s[j]'h).toNat ≤ 57)) (fun i => s.size - (intOf i).toNat)
        case atStart => exact ⟨0, Nat.zero_le _, rfl, fun j h hj => absurd hj (Nat.not_lt_zero _)⟩
        case round =>
          obtain ⟨k, hk, rfl, hdig⟩ := hrel
          by_cases hlt : k < s.size
          · by_cases hd1 : (s[k]'hlt).toNat < 48
            · have hf : Hid (r = false) := by
                unfold Hid; rw [hr2.out]
                cases hall : s.data.toList.all digB with
                | false => rfl
                | true => exact absurd (all_digits.1 hall k hlt).1 (by omega)
              clear hr2 hdig
              go_wp2_with fail
              go_ret
              exact ⟨by rw [hf.out]; rfl, rfl⟩
            · by_cases hd2 : 57 < (s[k]'hlt).toNat
              · have hf : Hid (r = false) := by
                  unfold Hid; rw [hr2.out]
                  cases hall : s.data.toList.all digB with
                  | false => rfl
                  | true => exact absurd (all_digits.1 hall k hlt).2 (by omega)
                clear hr2 hdig
                go_wp2_with fail
                go_ret
                exact ⟨by rw [hf.out]; rfl, rfl⟩
              · have hdig' : Hid (∀ j (h : j < s.size), j < k + 1 → 48 ≤ (s[j]'h).toNat ∧ (s[j]'h).toNat ≤ 57) := fun j h hj => by
                  by_cases hjk : j = k
                  · subst hjk; exact ⟨by omega, by omega⟩
                  · exact hdig.out j h (by omega)
                clear hdig
                go_wp2_with fail
                go_round
                case rel => exact ⟨k + 1, by omega, by go_num, hdig'⟩
                case measure => (simp [intOf] <;> omega)
          · have hf : Hid (r = true) := by
              unfold Hid; rw [hr2.out]
              exact all_digits.2 fun j h => hdig.out j h (by omega)
            clear hr2 hdig
            go_wp2_with fail
            go_ret
            exact ⟨by rw [hf.out]; rfl, rfl⟩
end Go.Proofs.YtippcalhcnjghaaDoor
/- whole.Parse of any text. -/
namespace Go.Proofs.YtippcalhcnjghaaDoor
open Go.RowKit Big
open Go.Lib (toList_data)

/-- digits as a number -/
def numL (l : List UInt8) : Nat := l.foldl (fun n c => n * 10 + (c.toNat - 48)) 0
theorem numL_snoc (l : List UInt8) (c : UInt8) : numL (l ++ [c]) = numL l * 10 + (c.toNat - 48) := by simp [numL]
theorem numL_aux : ∀ (l : List UInt8) (n : Nat), (∀ c ∈ l, c.toNat ≤ 57) → l.foldl (fun n c => n * 10 + (c.toNat - 48)) n < (n + 1) * 10 ^ l.length
  | [], n, _ => by simp
  | c :: l, n, h => by
    have h2 := h c (by simp)
    have h1 := numL_aux l (n * 10 + (c.toNat - 48)) (fun x hx => h x (by simp [hx]))
    rw [List.foldl_cons, List.length_cons, Nat.pow_succ]
    have : (n * 10 + (c.toNat - 48) + 1) * 10 ^ l.length ≤ (n + 1) * 10 * 10 ^ l.length := Nat.mul_le_mul_right _ (by omega)
    have e : (n + 1) * 10 * 10 ^ l.length = (n + 1) * (10 ^ l.length * 10) := by rw [Nat.mul_assoc, Nat.mul_comm 10]
    omega
theorem numL_sz (l : List UInt8) (h : ∀ c ∈ l, c.toNat ≤ 57) : sz H (numL l) ≤ l.length := by
  refine sz_le_of_lt H2 ?_
  have := numL_aux l 0 h
  rw [Nat.zero_add, Nat.one_mul] at this
  exact Nat.lt_of_lt_of_le this (Nat.pow_le_pow_left (by decide) _)
def below (s : ByteArray) : Bool := Lib.hasPrefix s.data.toList [45]
def rest (s : ByteArray) : ByteArray := ⟨(Lib.trimPrefix s.data.toList [45]).toArray⟩
/-- does a text tell a number? -/
def goodB (s : ByteArray) : Bool := decide (s.size ≤ 4096) && szB (rest s) && !(below s && decide ((rest s).data.toList = [48]))

set_option maxRecDepth 100000 in
set_option maxHeartbeats 3200000 in
theorem Parse_yes (s : ByteArray) (w : World) (hl : s.size ≤ 4096) (hb : goodB s = true) : Calls Tryd.prog 33 #[.string s] w (RParse (sg (below s) (numL (rest s).data.toList)) 0 w) := by
  unfold goodB at hb
  simp only [Bool.and_eq_true, decide_eq_true_eq] at hb
  obtain ⟨⟨-, hsz⟩, hnz⟩ := hb
  have hrl : (rest s).size ≤ 4096 := by
    have h1 : (Lib.trimPrefix s.data.toList [45]).length ≤ s.data.toList.length := by unfold Lib.trimPrefix; split <;> simp
    have h2 : s.data.toList.length = s.size := Array.length_toList
    show (Lib.trimPrefix s.data.toList [45]).toArray.size ≤ 4096
    rw [List.size_toArray]; omega
  have hc := fun W' => Tryd.strings_CutPrefix s ⟨#[45]⟩ W'
  have his := fun W' => isSize_any (rest s) W' (by omega)
  rw [hsz] at his
  have hdig : ∀ k (h : k < (rest s).size), 48 ≤ ((rest s)[k]'h).toNat ∧ ((rest s)[k]'h).toNat ≤ 57 := by
    unfold szB at hsz
    simp only [Bool.and_eq_true] at hsz
    exact all_digits.1 hsz.2
  have Hc : Hid (∀ W', Calls Tryd.prog 56 #[.string s, .string ⟨#[45]⟩] W' fun e w' => e = .returned (.tuple #[.string (rest s), .bool (below s)]) ∧ w' = W') := hc
  have Hdig := hid hdig; have His := hid his
  generalize rest s = t at *
  generalize below s = neg at *
  clear hc his hdig hsz
  cases neg
  · go_enter Tryd.func33, Tryd.ntmps33
    go_wp2_with fail
    refine (Hc.out _).mono ?_
    rintro e w1 ⟨rfl, rfl⟩
    go_wp2_with fail
    refine (His.out _).mono ?_
    rintro e w2 ⟨rfl, rfl⟩
    go_wp2_with fail
    have hpr : Pair (w.alloc (.cells #[.bool false, .slice none 0 0] 25)) w.heap.size 25 := Pair.new ..
    have hbw := below1 w (.cells #[.bool false, .slice none 0 0] 25)
    have hzw := size_alloc w (.cells #[.bool false, .slice none 0 0] 25)
    generalize w.alloc (.cells #[.bool false, .slice none 0 0] 25) = W1 at *
    go_loopw [6, 30] (fun o i wr => ∃ (k : Nat), k ≤ t.size ∧ i = .int .i64 (k : Nat) ∧ Own wr W1.heap.size 67 .u32 o (dig H (numL (t.data.toList.take k))) ∧ Below W1.heap.size W1 wr) (fun _ i _ => t.size - (intOf i).toNat)
    case atStart => exact ⟨0, Nat.zero_le _, rfl, Own.nil .., Below.refl _ _⟩
    case round =>
      obtain ⟨k, hk, rfl, hown, hbel⟩ := hrel
      by_cases hlt : k < t.size
      · have hd := Hdig.out k hlt
        have hdd : ∀ j ≤ t.size, ∀ c ∈ t.data.toList.take j, c.toNat ≤ 57 := fun j hj c hc => by
          obtain ⟨i, hi, rfl⟩ := List.getElem_of_mem (List.mem_of_mem_take hc)
          exact (Hdig.out i (by simpa using hi)).2
        have hnx : Hid (numL (t.data.toList.take (k + 1)) = numL (t.data.toList.take k) * 10 + ((t[k]'hlt).toNat - 48)) := by
          unfold Hid
          rw [← numL_snoc, List.take_succ_eq_append_getElem (by simpa using hlt)]
          rfl
        have hszk : sz H (numL (t.data.toList.take k)) ≤ 4398046511104 := by
          have h1 := numL_sz _ (hdd k hk)
          rw [List.length_take] at h1
          omega
        obtain ⟨m, hm⟩ : ∃ m, m = (t[k]'hlt).toNat - 48 := ⟨_, rfl⟩
        have hmb : m < 10 := by omega
        rw [← hm] at hnx
        have htp := fun (o : Value) (W' : World) (h : Own W' W1.heap.size 67 .u32 o (dig H (numL (t.data.toList.take k)))) (hB : W1.heap.size ≤ W'.heap.size) =>
          timesPlus_any W1.heap.size o _ 10 m W' h (by decide) (by decide) (by unfold H; omega) hszk hB
        have Htp := hid htp; have Hm := hid hm; have Hd := hid hd
        clear htp hdd hszk hm hd
        go_wp2_with fail
        have em : (((t[k]'hlt).toNat : Int) - 48) % 256 = (m : Nat) := by have := Hm.out; have := Hd.out; omega
        rw [em]
        refine (Htp.out _ _ hown hbel.size).mono ?_
        rintro e w2 ⟨v2, rfl, ho2, hb2⟩
        rw [← hnx.out] at ho2
        go_wp2_with fail
        go_roundw
        case rel => exact ⟨k + 1, by omega, by go_num, ho2, hbel.trans hb2⟩
        case measure => (simp [intOf] <;> omega)
      · have hke : k = t.size := by omega
        have hall : t.data.toList.take k = t.data.toList := List.take_of_length_le (by rw [Array.length_toList, hke]; exact Nat.le_refl _)
        rw [hall] at hown
        have hszt : sz H (numL t.data.toList) ≤ 4398046511104 := by
          have h1 := numL_sz t.data.toList (fun c hc => by
            obtain ⟨i, hi, rfl⟩ := List.getElem_of_mem hc
            exact (Hdig.out i (by simpa using hi)).2)
          rw [Array.length_toList] at h1
          have : t.data.size = t.size := rfl
          omega
        have hpr2 := hpr.below (w' := wr) hbel
        go_wp2_with fail
        refine (join_any _ _ _ hown.at hszt).mono ?_
        rintro e w2 ⟨v2, rfl, ho2, hb2⟩
        go_wp2_with fail
        refine (told_any false _ _ _ ho2.at).mono ?_
        rintro e w3 ⟨v3, rfl, hi3, hb3⟩
        obtain ⟨p3, n3, c3, rfl, hi3⟩ := hi3.shape
        have hpr3 := (hpr2.below hb2).below hb3
        have hbel3 := (hbw.trans (hbel.mono (B' := w.heap.size) (by omega))).trans ((hb2.mono (B' := w.heap.size) (by have := hbel.size; omega)).trans (hb3.mono (B' := w.heap.size) (by have := hbel.size; have := hb2.size; omega)))
        obtain ⟨_, _, q0, q1, q2, q3⟩ := hpr3.cells
        go_wp2
        exact bodyPost_ret (v := .tuple #[.agg #[.bool (decide (sg false (numL t.data.toList) < 0)), .slice p3 n3 c3], .int .i64 0]) (by simp [results, Tryd.results33, go_sem, q0, q1]) rfl
          ⟨_, rfl, hi3.stored hpr3 _ _ _ _, Below.stored hbel3 (Nat.le_refl _) _ _⟩
  · have hz : (t.toList == [48]) = false := by
      rw [toList_data]
      simpa using hnz
    have Hz := hid hz
    go_enter Tryd.func33, Tryd.ntmps33
    go_wp2_with fail
    refine (Hc.out _).mono ?_
    rintro e w1 ⟨rfl, rfl⟩
    go_wp2_with fail
    refine (His.out _).mono ?_
    rintro e w2 ⟨rfl, rfl⟩
    go_wp2_with fail
    have hpr : Pair (w.alloc (.cells #[.bool false, .slice none 0 0] 25)) w.heap.size 25 := Pair.new ..
    have hbw := below1 w (.cells #[.bool false, .slice none 0 0] 25)
    have hzw := size_alloc w (.cells #[.bool false, .slice none 0 0] 25)
    generalize w.alloc (.cells #[.bool false, .slice none 0 0] 25) = W1 at *
    go_loopw [6, 30] (fun o i wr => ∃ (k : Nat), k ≤ t.size ∧ i = .int .i64 (k : Nat) ∧ Own wr W1.heap.size 67 .u32 o (dig H (numL (t.data.toList.take k))) ∧ Below W1.heap.size W1 wr) (fun _ i _ => t.size - (intOf i).toNat)
    case atStart => exact ⟨0, Nat.zero_le _, rfl, Own.nil .., Below.refl _ _⟩
    case round =>
      obtain ⟨k, hk, rfl, hown, hbel⟩ := hrel
      by_cases hlt : k < t.size
      · have hd := Hdig.out k hlt
        have hdd : ∀ j ≤ t.size, ∀ c ∈ t.data.toList.take j, c.toNat ≤ 57 := fun j hj c hc => by
          obtain ⟨i, hi, rfl⟩ := List.getElem_of_mem (List.mem_of_mem_take hc)
          exact (Hdig.out i (by simpa using hi)).2
        have hnx : Hid (numL (t.data.toList.take (k + 1)) = numL (t.data.toList.take k) * 10 + ((t[k]'hlt).toNat - 48)) := by
          unfold Hid
          rw [← numL_snoc, List.take_succ_eq_append_getElem (by simpa using hlt)]
          rfl
        have hszk : sz H (numL (t.data.toList.take k)) ≤ 4398046511104 := by
          have h1 := numL_sz _ (hdd k hk)
          rw [List.length_take] at h1
          omega
        obtain ⟨m, hm⟩ : ∃ m, m = (t[k]'hlt).toNat - 48 := ⟨_, rfl⟩
        have hmb : m < 10 := by omega
        rw [← hm] at hnx
        have htp := fun (o : Value) (W' : World) (h : Own W' W1.heap.size 67 .u32 o (dig H (numL (t.data.toList.take k)))) (hB : W1.heap.size ≤ W'.heap.size) =>
          timesPlus_any W1.heap.size o _ 10 m W' h (by decide) (by decide) (by unfold H; omega) hszk hB
        have Htp := hid htp; have Hm := hid hm; have Hd := hid hd
        clear htp hdd hszk hm hd
        go_wp2_with fail
        have em : (((t[k]'hlt).toNat : Int) - 48) % 256 = (m : Nat) := by have := Hm.out; have := Hd.out; omega
        rw [em]
        refine (Htp.out _ _ hown hbel.size).mono ?_
        rintro e w2 ⟨v2, rfl, ho2, hb2⟩
        rw [← hnx.out] at ho2
        go_wp2_with fail
        go_roundw
        case rel => exact ⟨k + 1, by omega, by go_num, ho2, hbel.trans hb2⟩
        case measure => (simp [intOf] <;> omega)
      · have hke : k = t.size := by omega
        have hall : t.data.toList.take k = t.data.toList := List.take_of_length_le (by rw [Array.length_toList, hke]; exact Nat.le_refl _)
        rw [hall] at hown
        have hszt : sz H (numL t.data.toList) ≤ 4398046511104 := by
          have h1 := numL_sz t.data.toList (fun c hc => by
            obtain ⟨i, hi, rfl⟩ := List.getElem_of_mem hc
            exact (Hdig.out i (by simpa using hi)).2)
          rw [Array.length_toList] at h1
          have : t.data.size = t.size := rfl
          omega
        have hpr2 := hpr.below (w' := wr) hbel
        go_wp2_with fail
        refine (join_any _ _ _ hown.at hszt).mono ?_
        rintro e w2 ⟨v2, rfl, ho2, hb2⟩
        go_wp2_with fail
        refine (told_any true _ _ _ ho2.at).mono ?_
        rintro e w3 ⟨v3, rfl, hi3, hb3⟩
        obtain ⟨p3, n3, c3, rfl, hi3⟩ := hi3.shape
        have hpr3 := (hpr2.below hb2).below hb3
        have hbel3 := (hbw.trans (hbel.mono (B' := w.heap.size) (by omega))).trans ((hb2.mono (B' := w.heap.size) (by have := hbel.size; omega)).trans (hb3.mono (B' := w.heap.size) (by have := hbel.size; have := hb2.size; omega)))
        obtain ⟨_, _, q0, q1, q2, q3⟩ := hpr3.cells
        go_wp2
        exact bodyPost_ret (v := .tuple #[.agg #[.bool (decide (sg true (numL t.data.toList) < 0)), .slice p3 n3 c3], .int .i64 0]) (by simp [results, Tryd.results33, go_sem, q0, q1]) rfl
          ⟨_, rfl, hi3.stored hpr3 _ _ _ _, Below.stored hbel3 (Nat.le_refl _) _ _⟩
set_option maxRecDepth 100000 in
set_option maxHeartbeats 3200000 in
theorem Parse_no (s : ByteArray) (w : World) (hb : goodB s = false) (hs : s.size ≤ 1099511627776) : Calls Tryd.prog 33 #[.string s] w (RParse 0 6 w) := by
  have hc := fun W' => Tryd.strings_CutPrefix s ⟨#[45]⟩ W'
  have hrl : (rest s).size ≤ s.size := by
    have h1 : (Lib.trimPrefix s.data.toList [45]).length ≤ s.data.toList.length := by unfold Lib.trimPrefix; split <;> simp
    have h2 : s.data.toList.length = s.size := Array.length_toList
    show (Lib.trimPrefix s.data.toList [45]).toArray.size ≤ s.size
    rw [List.size_toArray]; omega
  have his := fun (h : (rest s).size ≤ 4096) W' => isSize_any (rest s) W' (by omega)
  have Hc : Hid (∀ W', Calls Tryd.prog 56 #[.string s, .string ⟨#[45]⟩] W' fun e w' => e = .returned (.tuple #[.string (rest s), .bool (below s)]) ∧ w' = W') := hc
  unfold goodB at hb
  by_cases hl : s.size ≤ 4096
  · have his := his (by omega)
    rw [decide_eq_true hl, Bool.true_and] at hb
    generalize rest s = t at *
    generalize below s = neg at *
    cases hsz : szB t with
    | false =>
      rw [hsz] at his
      have His := hid his
      clear hc his hb
      cases neg
      all_goals
        go_enter Tryd.func33, Tryd.ntmps33
        go_wp2_with fail
        refine (Hc.out _).mono ?_
        rintro e w1 ⟨rfl, rfl⟩
        go_wp2_with fail
        refine (His.out _).mono ?_
        rintro e w2 ⟨rfl, rfl⟩
        go_wp2_with fail
        exact bodyPost_ret (v := .tuple #[.agg #[.bool false, .slice none 0 0], .int .i64 6]) (by simp [results, Tryd.results33, go_sem]) rfl ⟨_, rfl, IntAt.zero _, below1 _ _⟩
    | true =>
      rw [hsz] at his hb
      have His := hid his
      cases neg with
      | false => simp at hb
      | true =>
        have hz : (t.toList == [48]) = true := by
          rw [toList_data]
          simpa using hb
        clear hc his hb
        go_enter Tryd.func33, Tryd.ntmps33
        go_wp2_with fail
        refine (Hc.out _).mono ?_
        rintro e w1 ⟨rfl, rfl⟩
        go_wp2_with fail
        refine (His.out _).mono ?_
        rintro e w2 ⟨rfl, rfl⟩
        go_wp2_with fail
        exact bodyPost_ret (v := .tuple #[.agg #[.bool false, .slice none 0 0], .int .i64 6]) (by simp [results, Tryd.results33, go_sem]) rfl ⟨_, rfl, IntAt.zero _, below1 _ _⟩
  · clear hc his hb
    go_enter Tryd.func33, Tryd.ntmps33
    go_wp2_with fail
    exact bodyPost_ret (v := .tuple #[.agg #[.bool false, .slice none 0 0], .int .i64 6]) (by simp [results, Tryd.results33, go_sem]) rfl ⟨_, rfl, IntAt.zero _, below1 _ _⟩
end Go.Proofs.YtippcalhcnjghaaDoor
/- elenchusref01.Parse. -/
namespace Go.Proofs.YtippcalhcnjghaaDoor
open Go.RowKit Big
open Go.Lib (toList_data)

def RParseIf (b : Bool) (z : Int) (w : World) : Ending → World → Prop := if b then RParse z 0 w else RParse 0 6 w
theorem numL_szW (l : List UInt8) (h : ∀ c ∈ l, c.toNat ≤ 57) : sz W (numL l) ≤ l.length := by
  refine sz_le_of_lt W2 ?_
  have := numL_aux l 0 h
  rw [Nat.zero_add, Nat.one_mul] at this
  exact Nat.lt_of_lt_of_le this (Nat.pow_le_pow_left (by decide) _)
theorem sz_few {m : Nat} (h : m < 10) : sz W m ≤ 1 := sz_le_of_lt W2 (by unfold W; omega)
theorem wrap_u8 {m : Nat} (h : m < 10) : IntKind.u8.wrap (m : Int) = (m : Nat) := by
  match m, h with
  | 0, _ | 1, _ | 2, _ | 3, _ | 4, _ | 5, _ | 6, _ | 7, _ | 8, _ | 9, _ => rfl
theorem wrap_i64 {m : Nat} (h : m < 10) : IntKind.i64.wrap (m : Int) = (m : Nat) := by
  match m, h with
  | 0, _ | 1, _ | 2, _ | 3, _ | 4, _ | 5, _ | 6, _ | 7, _ | 8, _ | 9, _ => rfl
theorem len10 {vs : List Value} (h : vs.length = 10) : ∃ a b c d e f g h i j, vs = [a, b, c, d, e, f, g, h, i, j] := by
  match vs, h with
  | [a, b, c, d, e, f, g, h, i, j], _ => exact ⟨a, b, c, d, e, f, g, h, i, j, rfl⟩

set_option maxRecDepth 100000 in
set_option maxHeartbeats 6400000 in
theorem RParse_plain (s : ByteArray) (w : World) (h0 : 0 < s.size) (hl : s.size ≤ 4096) (hn : (s[0]'h0).toNat ≠ 45) (hz : (s[0]'h0).toNat = 48 → (s.toList == [48]) = true) :
    Calls Tryd.prog 34 #[.string s] w (RParseIf (s.data.toList.all digB) (numL s.data.toList) w) := by
  obtain ⟨r, hr⟩ : ∃ r, r = s.data.toList.all digB := ⟨_, rfl⟩
  rw [← hr]
  have hr2 := hid hr
  clear hr
  have hemp : s.toList.isEmpty = false := by
    rw [toList_data]
    have : s.data.toList.length = s.size := Array.length_toList
    cases he : s.data.toList with
    | nil => rw [he] at this; simp at this; omega
    | cons => rfl
  have hnil : ¬ s.toList = [] := fun e => by rw [e] at hemp; cases hemp
  by_cases hc : (s[0]'h0).toNat = 48
  · have hz' := hz hc
    go_enter Tryd.func34, Tryd.ntmps34
    go_wp2_with fail
    generalize hW : World.alloc (World.alloc w _) _ = W1
    have bw : Below w.heap.size w W1 := by rw [← hW]; exact (below1 _ _).alloc (by simp) _
    have hp : Pair W1 w.heap.size 25 := by rw [← hW]; exact Pair.below (Pair.new ..) (below1 _ _)
    have hx : IntCell W1 (w.heap.size + 1) (0 : Nat) := by rw [← hW]; exact ⟨_, _, _, _, heap_new2 _ _ _, IntAt.zero _⟩
    have z1 : W1.heap.size = w.heap.size + 2 := by rw [← hW]; simp
    have Bw := hid bw; have Hp := hid hp
    clear hW bw hp
    go_loopw [6] (fun i wr => ∃ k : Nat, k ≤ s.size ∧ i = .int .i64 (k : Nat) ∧ IntCell wr (w.heap.size + 1) (numL (s.data.toList.take k) : Nat) ∧ Hid (∀ j (h : j < s.size), j < k → 48 ≤ (s[j]'h).toNat ∧ (s[j]'h).toNat ≤ 57) ∧ Hid (Pair wr w.heap.size 25) ∧ Hid (Below w.heap.size w wr) ∧ w.heap.size + 2 ≤ wr.heap.size) (fun i _ => s.size - (intOf i).toNat)
    case atStart => exact ⟨0, Nat.zero_le _, rfl, hx, (fun j h hj => absurd hj (Nat.not_lt_zero _)), Hp.out, Bw.out, by omega⟩
    case round =>
      obtain ⟨k, hk, rfl, hcell, hdig, hpr, hbel, hzr⟩ := hrel
      by_cases hlt : k < s.size
      · by_cases hd1 : (s[k]'hlt).toNat < 48
        · have hf : Hid (r = false) := by
            unfold Hid; rw [hr2.out]
            cases hall : s.data.toList.all digB with
            | false => rfl
            | true => exact absurd (all_digits.1 hall k hlt).1 (by omega)
          obtain ⟨_, _, q0, q1, q2, q3⟩ := hpr.out.cells
          clear hr2 hdig
          go_wp2_with fail
          rw [hf.out]
          exact bodyPost_ret (v := .tuple #[.agg #[.bool false, .slice none 0 0], .int .i64 6]) (by simp [results, Tryd.results34, go_sem, q0, q1]) rfl ⟨_, rfl, IntAt.zero _, Below.stored hbel.out (Nat.le_refl _) _ _⟩
        · by_cases hd2 : 57 < (s[k]'hlt).toNat
          · have hf : Hid (r = false) := by
              unfold Hid; rw [hr2.out]
              cases hall : s.data.toList.all digB with
              | false => rfl
              | true => exact absurd (all_digits.1 hall k hlt).2 (by omega)
            obtain ⟨_, _, q0, q1, q2, q3⟩ := hpr.out.cells
            clear hr2 hdig
            go_wp2_with fail
            rw [hf.out]
            exact bodyPost_ret (v := .tuple #[.agg #[.bool false, .slice none 0 0], .int .i64 6]) (by simp [results, Tryd.results34, go_sem, q0, q1]) rfl ⟨_, rfl, IntAt.zero _, Below.stored hbel.out (Nat.le_refl _) _ _⟩
          · have hdig' : Hid (∀ j (h : j < s.size), j < k + 1 → 48 ≤ (s[j]'h).toNat ∧ (s[j]'h).toNat ≤ 57) := fun j h hj => by
              by_cases hjk : j = k
              · subst hjk; exact ⟨by omega, by omega⟩
              · exact hdig.out j h (by omega)
            obtain ⟨n, hnn⟩ : ∃ n, n = numL (s.data.toList.take k) := ⟨_, rfl⟩
            have hsn : sz W n ≤ 4096 := by
              have h1 := numL_szW (s.data.toList.take k) (fun c hc => by
                obtain ⟨j, hj, rfl⟩ := List.getElem_of_mem hc
                rw [List.length_take] at hj
                rw [List.getElem_take]
                exact (hdig.out j (by omega) (by omega)).2)
              rw [List.length_take] at h1
              rw [hnn]; omega
            have hsn10 : sz W (n * 10) ≤ 5000 := by
              have h1 := sz_mul W2 n 10
              have h2 : sz W 10 ≤ 1 := sz_le_of_lt W2 (by decide)
              omega
            obtain ⟨m, hm⟩ : ∃ m, m = (s[k]'hlt).toNat - 48 := ⟨_, rfl⟩
            have hnx : Hid (numL (s.data.toList.take (k + 1)) = n * 10 + m) := by
              unfold Hid
              rw [hnn, hm, ← numL_snoc, List.take_succ_eq_append_getElem (by simpa using hlt)]
              rfl
            have hmb : m < 10 := by omega
            have em : IntKind.u8.wrap (((s[k]'hlt).toNat : Int) - 48) = (m : Nat) := by
              rw [show (((s[k]'hlt).toNat : Int) - 48) = (m : Nat) by omega]
              exact wrap_u8 hmb
            have em2 : IntKind.i64.wrap (m : Int) = (m : Nat) := by
              exact wrap_i64 hmb
            have Hem2 := hid em2
            clear em2
            rw [← hnn] at hcell
            have Hem := hid em; have Hcell := hid hcell
            clear hnn hm hdig hr2 em hcell
            go_upto_region 12 with fail
            refine wp_region_facts (w0 := wr) 10 1 [53, 54, 55, 56, 57, 58, 59, 60, 61, 62] [u53, u54, u55, u56, u57, u58, u59, u60, u61, u62]
              (fun i => match i with
                | 0 => intF (n : Nat) | 1 => intF 10 | 2 => intF ((n * 10 : Nat) : Int) | 3 => eqF (.string s) | 4 => eqF (.int .i64 (k : Nat)) | 5 => eqF (.int .u8 ((s[k]'hlt).toNat : Nat)) | 6 => eqF (.int .u8 (m : Nat)) | 7 => eqF (.int .i64 (m : Nat)) | 8 => intF (m : Nat)
                | _ => intF ((n * 10 + m : Nat) : Int)) [] (by kernel_rfl) (by kernel_rfl) (by kernel_rfl) (by kernel_rfl) (by decide) rfl (by kernel_rfl) rfl (by simp) ?he ?_ ?_ ?_
            case he => simp only [putAll, Act.put, List.setIfInBounds_toArray, List.set_cons_zero, List.set_cons_succ]
            · intro i hi; simp at hi
            · intro i o hi ho vs wx hvl hb hdep K hK
              have hvs := len10 hvl
              obtain ⟨s53, s54, s55, s56, s57, s58, s59, s60, s61, s62, rfl⟩ := hvs
              clear hvl
              rcases i with _ | _ | _ | _ | _ | _ | _ | _ | _ | _ | i
              all_goals (simp only [List.getElem?_toArray, List.getElem?_cons_zero, List.getElem?_cons_succ, Option.some.injEq] at ho)
              all_goals try (subst ho)
              all_goals try simp only [putAll, Act.put, List.setIfInBounds_toArray, List.set_cons_zero, List.set_cons_succ]
              · have hc := Hcell.out.below hb
                obtain ⟨d5, p5, m5, c5, e5, i5⟩ := hc
                have e5' := two_cells e5
                obtain ⟨x50, x51, -, -⟩ := e5'
                go_simp
                have hK' := hK.out
                simp only [putAll, Act.put, List.setIfInBounds_toArray, List.set_cons_zero, List.set_cons_succ] at hK'
                exact hK' _ _ ⟨_, _, _, _, rfl, i5⟩ (Below.refl _ _) (by simp)
              · go_simp
                refine (ROf_any 10 _ (by decide) (by decide)).mono ?_
                rintro e wy ⟨vy, rfl, iy, hby⟩
                have hsh := iy.shape
                obtain ⟨p5, n5, c5, rfl, iy⟩ := hsh
                go_wp2_with fail
                have hK' := hK.out
                simp only [putAll, Act.put, List.setIfInBounds_toArray, List.set_cons_zero, List.set_cons_succ] at hK'
                exact hK' _ _ ⟨_, _, _, _, rfl, iy⟩ hby (by simp)
              · have d0 : (intF (n : Nat)).P s53 wx := hdep ⟨0, .data⟩ (by simp) rfl
                have d1 : (intF 10).P s54 wx := hdep ⟨1, .data⟩ (by simp) rfl
                obtain ⟨da, pa, na, ca, rfl, ia⟩ := d0
                obtain ⟨db, pb, nb, cb, rfl, ib⟩ := d1
                go_simp
                refine (RMul_any _ _ _ _ _ (ia.raw (by show sz W n ≤ _; omega)) (ib.raw (by decide)) (by show sz W n ≤ _; omega) (by decide)).mono ?_
                rintro e wy ⟨vy, rfl, iy, hby⟩
                have hsh := iy.shape
                obtain ⟨p5, n5, c5, rfl, iy⟩ := hsh
                go_wp2_with fail
                have hK' := hK.out
                simp only [putAll, Act.put, List.setIfInBounds_toArray, List.set_cons_zero, List.set_cons_succ] at hK'
                exact hK' _ _ ⟨_, _, _, _, rfl, iy⟩ hby (by simp)
              · go_simp
                have hK' := hK.out
                simp only [putAll, Act.put, List.setIfInBounds_toArray, List.set_cons_zero, List.set_cons_succ] at hK'
                exact hK' _ _ rfl (Below.refl _ _) (by simp)
              · go_simp
                have hK' := hK.out
                simp only [putAll, Act.put, List.setIfInBounds_toArray, List.set_cons_zero, List.set_cons_succ] at hK'
                exact hK' _ _ rfl (Below.refl _ _) (by simp)
              · have d3 : s56 = _ := hdep ⟨3, .data⟩ (by simp) rfl
                have d4 : s57 = _ := hdep ⟨4, .data⟩ (by simp) rfl
                subst d3 d4
                go_simp
                have hK' := hK.out
                simp only [putAll, Act.put, List.setIfInBounds_toArray, List.set_cons_zero, List.set_cons_succ] at hK'
                exact hK' _ _ rfl (Below.refl _ _) (by simp)
              · have d5 : s58 = _ := hdep ⟨5, .data⟩ (by simp) rfl
                subst d5
                go_simp
                have hK' := hK.out
                simp only [putAll, Act.put, List.setIfInBounds_toArray, List.set_cons_zero, List.set_cons_succ] at hK'
                rw [Hem.out]
                exact hK' _ _ rfl (Below.refl _ _) (by simp)
              · have d6 : s59 = _ := hdep ⟨6, .data⟩ (by simp) rfl
                subst d6
                go_simp
                have hK' := hK.out
                simp only [putAll, Act.put, List.setIfInBounds_toArray, List.set_cons_zero, List.set_cons_succ] at hK'
                rw [Hem2.out]
                exact hK' _ _ rfl (Below.refl _ _) (by simp)
              · have d7 : s60 = _ := hdep ⟨7, .data⟩ (by simp) rfl
                subst d7
                go_simp
                refine (ROf_any (m : Nat) _ (by omega) (by omega)).mono ?_
                rintro e wy ⟨vy, rfl, iy, hby⟩
                have hsh := iy.shape
                obtain ⟨p5, n5, c5, rfl, iy⟩ := hsh
                go_wp2_with fail
                have hK' := hK.out
                simp only [putAll, Act.put, List.setIfInBounds_toArray, List.set_cons_zero, List.set_cons_succ] at hK'
                exact hK' _ _ ⟨_, _, _, _, rfl, iy⟩ hby (by simp)
              · have d2 : (intF ((n * 10 : Nat) : Int)).P s55 wx := hdep ⟨2, .data⟩ (by simp) rfl
                have d8 : (intF (m : Nat)).P s61 wx := hdep ⟨8, .data⟩ (by simp) rfl
                obtain ⟨da, pa, na, ca, rfl, ia⟩ := d2
                obtain ⟨db, pb, nb, cb, rfl, ib⟩ := d8
                go_simp
                refine (RAdd_any _ _ _ _ _ (ia.raw (by show sz W (n * 10) ≤ _; omega)) (ib.raw (by have := sz_few hmb; show sz W m ≤ _; omega))).mono ?_
                rintro e wy ⟨vy, rfl, iy, hby⟩
                have hsh := iy.shape
                obtain ⟨p5, n5, c5, rfl, iy⟩ := hsh
                go_wp2_with fail
                have hK' := hK.out
                simp only [putAll, Act.put, List.setIfInBounds_toArray, List.set_cons_zero, List.set_cons_succ] at hK'
                exact hK' _ _ ⟨_, _, _, _, rfl, iy⟩ hby (by simp)
              · omega
            · intro vs wx hvl hb hf hdist
              have hvs := len10 hvl
              obtain ⟨s53, s54, s55, s56, s57, s58, s59, s60, s61, s62, rfl⟩ := hvs
              have f9 : (intF ((n * 10 + m : Nat) : Int)).P s62 wx := hf 9 (by decide)
              obtain ⟨d7, p7, m7, c7, rfl, i7⟩ := f9
              have hc := (Hcell.out.below hb).pair
              obtain ⟨_, _, q0, q1, q2, q3⟩ := hc.cells
              clear hf hdist hvl
              refine wpAny_one (i := 10) (by kernel_rfl) rfl ?_
              intro K hK
              simp only [putAll, Act.put, List.setIfInBounds_toArray, List.set_cons_zero, List.set_cons_succ]
              go_simp
              have hK' := hK.out
              apply hK'
              clear hK hK'
              refine wpAny_done (by kernel_rfl) ?_ _
              have F1 := IntCell.put hc i7
              have F2 := hid (Pair.apart (hpr.out.below hb) (show w.heap.size ≠ w.heap.size + 1 by omega) (.bool d7) (.slice p7 m7 c7))
              have F3 := hid (Below.stored (hbel.out.trans (hb.mono (B' := w.heap.size) (by omega))) (g := w.heap.size + 1) (by omega) (.bool d7) (.slice p7 m7 c7))
              have F4 : w.heap.size + 2 ≤ ((wx.setCell ⟨w.heap.size + 1, 0, none⟩ (.bool d7)).setCell ⟨w.heap.size + 1, 1, none⟩ (.slice p7 m7 c7)).heap.size := by have := hb.size; simp [World.setCell]; omega
              rw [← hnx.out] at F1
              generalize ((wx.setCell ⟨w.heap.size + 1, 0, none⟩ (.bool d7)).setCell ⟨w.heap.size + 1, 1, none⟩ (.slice p7 m7 c7)) = wz at *
              clear q0 q1 q2 q3 hc
              go_wp2_with fail
              go_roundw
              case rel => exact ⟨k + 1, by omega, by go_num, F1, hdig', F2.out, F3.out, F4⟩
              case measure => (simp [intOf] <;> omega)
      · have hf : Hid (r = true) := by
          unfold Hid; rw [hr2.out]
          exact all_digits.2 fun j h => hdig.out j h (by omega)
        have hall : s.data.toList.take k = s.data.toList := List.take_of_length_le (by rw [Array.length_toList, show s.data.size = s.size from rfl]; omega)
        rw [hall] at hcell
        obtain ⟨d5, p5, m5, c5, e5, i5⟩ := hcell
        obtain ⟨x50, x51, -, -⟩ := two_cells e5
        have hsz : (dig W (numL s.data.toList)).length ≤ 4096 := by
          have h1 := numL_szW s.data.toList (fun c hc => by
            obtain ⟨j, hj, rfl⟩ := List.getElem_of_mem hc
            exact (hdig.out j (by simpa using hj) (by have : s.data.toList.length = s.size := Array.length_toList; omega)).2)
          rw [Array.length_toList, show s.data.size = s.size from rfl] at h1
          exact Nat.le_trans h1 hl
        have hat : At wr .u64 (.slice p5 m5 c5) (dig W (numL s.data.toList)) := by
          obtain ⟨u, hu, hua⟩ := i5
          injection hu with hu
          simp at hu
          rw [hu.2]
          simpa using hua
        have hwh := Whole_any false _ _ wr hat (small_dig W2 _) (by omega)
        rw [val_dig W2] at hwh
        have Hwh := hid hwh
        clear hdig hr2 hsz hat hwh i5 e5
        go_wp2_with fail
        refine Hwh.out.mono ?_
        rintro e w3 ⟨v3, rfl, hi3, hb3⟩
        obtain ⟨p3, n3, c3, rfl, hi3⟩ := hi3.shape
        have hpr3 := hpr.out.below hb3
        have hbel3 := hbel.out.trans (hb3.mono (B' := w.heap.size) (by omega))
        obtain ⟨_, _, q0, q1, q2, q3⟩ := hpr3.cells
        clear x50 x51 hb3
        go_wp2
        rw [hf.out]
        exact bodyPost_ret (v := .tuple #[.agg #[.bool (decide (sg false (numL s.data.toList) < 0)), .slice p3 n3 c3], .int .i64 0]) (by simp [results, Tryd.results34, go_sem, q0, q1]) rfl
          ⟨_, rfl, hi3.stored hpr3 _ _ _ _, Below.stored hbel3 (Nat.le_refl _) _ _⟩
  · clear hz
    go_enter Tryd.func34, Tryd.ntmps34
    go_wp2_with fail
    generalize hW : World.alloc (World.alloc w _) _ = W1
    have bw : Below w.heap.size w W1 := by rw [← hW]; exact (below1 _ _).alloc (by simp) _
    have hp : Pair W1 w.heap.size 25 := by rw [← hW]; exact Pair.below (Pair.new ..) (below1 _ _)
    have hx : IntCell W1 (w.heap.size + 1) (0 : Nat) := by rw [← hW]; exact ⟨_, _, _, _, heap_new2 _ _ _, IntAt.zero _⟩
    have z1 : W1.heap.size = w.heap.size + 2 := by rw [← hW]; simp
    have Bw := hid bw; have Hp := hid hp
    clear hW bw hp
    go_loopw [6] (fun i wr => ∃ k : Nat, k ≤ s.size ∧ i = .int .i64 (k : Nat) ∧ IntCell wr (w.heap.size + 1) (numL (s.data.toList.take k) : Nat) ∧ Hid (∀ j (h : j < s.size), j < k → 48 ≤ (s[j]'h).toNat ∧ (s[j]'h).toNat ≤ 57) ∧ Hid (Pair wr w.heap.size 25) ∧ Hid (Below w.heap.size w wr) ∧ w.heap.size + 2 ≤ wr.heap.size) (fun i _ => s.size - (intOf i).toNat)
    case atStart => exact ⟨0, Nat.zero_le _, rfl, hx, (fun j h hj => absurd hj (Nat.not_lt_zero _)), Hp.out, Bw.out, by omega⟩
    case round =>
      obtain ⟨k, hk, rfl, hcell, hdig, hpr, hbel, hzr⟩ := hrel
      by_cases hlt : k < s.size
      · by_cases hd1 : (s[k]'hlt).toNat < 48
        · have hf : Hid (r = false) := by
            unfold Hid; rw [hr2.out]
            cases hall : s.data.toList.all digB with
            | false => rfl
            | true => exact absurd (all_digits.1 hall k hlt).1 (by omega)
          obtain ⟨_, _, q0, q1, q2, q3⟩ := hpr.out.cells
          clear hr2 hdig
          go_wp2_with fail
          rw [hf.out]
          exact bodyPost_ret (v := .tuple #[.agg #[.bool false, .slice none 0 0], .int .i64 6]) (by simp [results, Tryd.results34, go_sem, q0, q1]) rfl ⟨_, rfl, IntAt.zero _, Below.stored hbel.out (Nat.le_refl _) _ _⟩
        · by_cases hd2 : 57 < (s[k]'hlt).toNat
          · have hf : Hid (r = false) := by
              unfold Hid; rw [hr2.out]
              cases hall : s.data.toList.all digB with
              | false => rfl
              | true => exact absurd (all_digits.1 hall k hlt).2 (by omega)
            obtain ⟨_, _, q0, q1, q2, q3⟩ := hpr.out.cells
            clear hr2 hdig
            go_wp2_with fail
            rw [hf.out]
            exact bodyPost_ret (v := .tuple #[.agg #[.bool false, .slice none 0 0], .int .i64 6]) (by simp [results, Tryd.results34, go_sem, q0, q1]) rfl ⟨_, rfl, IntAt.zero _, Below.stored hbel.out (Nat.le_refl _) _ _⟩
          · have hdig' : Hid (∀ j (h : j < s.size), j < k + 1 → 48 ≤ (s[j]'h).toNat ∧ (s[j]'h).toNat ≤ 57) := fun j h hj => by
              by_cases hjk : j = k
              · subst hjk; exact ⟨by omega, by omega⟩
              · exact hdig.out j h (by omega)
            obtain ⟨n, hnn⟩ : ∃ n, n = numL (s.data.toList.take k) := ⟨_, rfl⟩
            have hsn : sz W n ≤ 4096 := by
              have h1 := numL_szW (s.data.toList.take k) (fun c hc => by
                obtain ⟨j, hj, rfl⟩ := List.getElem_of_mem hc
                rw [List.length_take] at hj
                rw [List.getElem_take]
                exact (hdig.out j (by omega) (by omega)).2)
              rw [List.length_take] at h1
              rw [hnn]; omega
            have hsn10 : sz W (n * 10) ≤ 5000 := by
              have h1 := sz_mul W2 n 10
              have h2 : sz W 10 ≤ 1 := sz_le_of_lt W2 (by decide)
              omega
            obtain ⟨m, hm⟩ : ∃ m, m = (s[k]'hlt).toNat - 48 := ⟨_, rfl⟩
            have hnx : Hid (numL (s.data.toList.take (k + 1)) = n * 10 + m) := by
              unfold Hid
              rw [hnn, hm, ← numL_snoc, List.take_succ_eq_append_getElem (by simpa using hlt)]
              rfl
            have hmb : m < 10 := by omega
            have em : IntKind.u8.wrap (((s[k]'hlt).toNat : Int) - 48) = (m : Nat) := by
              rw [show (((s[k]'hlt).toNat : Int) - 48) = (m : Nat) by omega]
              exact wrap_u8 hmb
            have em2 : IntKind.i64.wrap (m : Int) = (m : Nat) := by
              exact wrap_i64 hmb
            have Hem2 := hid em2
            clear em2
            rw [← hnn] at hcell
            have Hem := hid em; have Hcell := hid hcell
            clear hnn hm hdig hr2 em hcell
            go_upto_region 12 with fail
            refine wp_region_facts (w0 := wr) 10 1 [53, 54, 55, 56, 57, 58, 59, 60, 61, 62] [u53, u54, u55, u56, u57, u58, u59, u60, u61, u62]
              (fun i => match i with
                | 0 => intF (n : Nat) | 1 => intF 10 | 2 => intF ((n * 10 : Nat) : Int) | 3 => eqF (.string s) | 4 => eqF (.int .i64 (k : Nat)) | 5 => eqF (.int .u8 ((s[k]'hlt).toNat : Nat)) | 6 => eqF (.int .u8 (m : Nat)) | 7 => eqF (.int .i64 (m : Nat)) | 8 => intF (m : Nat)
                | _ => intF ((n * 10 + m : Nat) : Int)) [] (by kernel_rfl) (by kernel_rfl) (by kernel_rfl) (by kernel_rfl) (by decide) rfl (by kernel_rfl) rfl (by simp) ?he ?_ ?_ ?_
            case he => simp only [putAll, Act.put, List.setIfInBounds_toArray, List.set_cons_zero, List.set_cons_succ]
            · intro i hi; simp at hi
            · intro i o hi ho vs wx hvl hb hdep K hK
              have hvs := len10 hvl
              obtain ⟨s53, s54, s55, s56, s57, s58, s59, s60, s61, s62, rfl⟩ := hvs
              clear hvl
              rcases i with _ | _ | _ | _ | _ | _ | _ | _ | _ | _ | i
              all_goals (simp only [List.getElem?_toArray, List.getElem?_cons_zero, List.getElem?_cons_succ, Option.some.injEq] at ho)
              all_goals try (subst ho)
              all_goals try simp only [putAll, Act.put, List.setIfInBounds_toArray, List.set_cons_zero, List.set_cons_succ]
              · have hc := Hcell.out.below hb
                obtain ⟨d5, p5, m5, c5, e5, i5⟩ := hc
                have e5' := two_cells e5
                obtain ⟨x50, x51, -, -⟩ := e5'
                go_simp
                have hK' := hK.out
                simp only [putAll, Act.put, List.setIfInBounds_toArray, List.set_cons_zero, List.set_cons_succ] at hK'
                exact hK' _ _ ⟨_, _, _, _, rfl, i5⟩ (Below.refl _ _) (by simp)
              · go_simp
                refine (ROf_any 10 _ (by decide) (by decide)).mono ?_
                rintro e wy ⟨vy, rfl, iy, hby⟩
                have hsh := iy.shape
                obtain ⟨p5, n5, c5, rfl, iy⟩ := hsh
                go_wp2_with fail
                have hK' := hK.out
                simp only [putAll, Act.put, List.setIfInBounds_toArray, List.set_cons_zero, List.set_cons_succ] at hK'
                exact hK' _ _ ⟨_, _, _, _, rfl, iy⟩ hby (by simp)
              · have d0 : (intF (n : Nat)).P s53 wx := hdep ⟨0, .data⟩ (by simp) rfl
                have d1 : (intF 10).P s54 wx := hdep ⟨1, .data⟩ (by simp) rfl
                obtain ⟨da, pa, na, ca, rfl, ia⟩ := d0
                obtain ⟨db, pb, nb, cb, rfl, ib⟩ := d1
                go_simp
                refine (RMul_any _ _ _ _ _ (ia.raw (by show sz W n ≤ _; omega)) (ib.raw (by decide)) (by show sz W n ≤ _; omega) (by decide)).mono ?_
                rintro e wy ⟨vy, rfl, iy, hby⟩
                have hsh := iy.shape
                obtain ⟨p5, n5, c5, rfl, iy⟩ := hsh
                go_wp2_with fail
                have hK' := hK.out
                simp only [putAll, Act.put, List.setIfInBounds_toArray, List.set_cons_zero, List.set_cons_succ] at hK'
                exact hK' _ _ ⟨_, _, _, _, rfl, iy⟩ hby (by simp)
              · go_simp
                have hK' := hK.out
                simp only [putAll, Act.put, List.setIfInBounds_toArray, List.set_cons_zero, List.set_cons_succ] at hK'
                exact hK' _ _ rfl (Below.refl _ _) (by simp)
              · go_simp
                have hK' := hK.out
                simp only [putAll, Act.put, List.setIfInBounds_toArray, List.set_cons_zero, List.set_cons_succ] at hK'
                exact hK' _ _ rfl (Below.refl _ _) (by simp)
              · have d3 : s56 = _ := hdep ⟨3, .data⟩ (by simp) rfl
                have d4 : s57 = _ := hdep ⟨4, .data⟩ (by simp) rfl
                subst d3 d4
                go_simp
                have hK' := hK.out
                simp only [putAll, Act.put, List.setIfInBounds_toArray, List.set_cons_zero, List.set_cons_succ] at hK'
                exact hK' _ _ rfl (Below.refl _ _) (by simp)
              · have d5 : s58 = _ := hdep ⟨5, .data⟩ (by simp) rfl
                subst d5
                go_simp
                have hK' := hK.out
                simp only [putAll, Act.put, List.setIfInBounds_toArray, List.set_cons_zero, List.set_cons_succ] at hK'
                rw [Hem.out]
                exact hK' _ _ rfl (Below.refl _ _) (by simp)
              · have d6 : s59 = _ := hdep ⟨6, .data⟩ (by simp) rfl
                subst d6
                go_simp
                have hK' := hK.out
                simp only [putAll, Act.put, List.setIfInBounds_toArray, List.set_cons_zero, List.set_cons_succ] at hK'
                rw [Hem2.out]
                exact hK' _ _ rfl (Below.refl _ _) (by simp)
              · have d7 : s60 = _ := hdep ⟨7, .data⟩ (by simp) rfl
                subst d7
                go_simp
                refine (ROf_any (m : Nat) _ (by omega) (by omega)).mono ?_
                rintro e wy ⟨vy, rfl, iy, hby⟩
                have hsh := iy.shape
                obtain ⟨p5, n5, c5, rfl, iy⟩ := hsh
                go_wp2_with fail
                have hK' := hK.out
                simp only [putAll, Act.put, List.setIfInBounds_toArray, List.set_cons_zero, List.set_cons_succ] at hK'
                exact hK' _ _ ⟨_, _, _, _, rfl, iy⟩ hby (by simp)
              · have d2 : (intF ((n * 10 : Nat) : Int)).P s55 wx := hdep ⟨2, .data⟩ (by simp) rfl
                have d8 : (intF (m : Nat)).P s61 wx := hdep ⟨8, .data⟩ (by simp) rfl
                obtain ⟨da, pa, na, ca, rfl, ia⟩ := d2
                obtain ⟨db, pb, nb, cb, rfl, ib⟩ := d8
                go_simp
                refine (RAdd_any _ _ _ _ _ (ia.raw (by show sz W (n * 10) ≤ _; omega)) (ib.raw (by have := sz_few hmb; show sz W m ≤ _; omega))).mono ?_
                rintro e wy ⟨vy, rfl, iy, hby⟩
                have hsh := iy.shape
                obtain ⟨p5, n5, c5, rfl, iy⟩ := hsh
                go_wp2_with fail
                have hK' := hK.out
                simp only [putAll, Act.put, List.setIfInBounds_toArray, List.set_cons_zero, List.set_cons_succ] at hK'
                exact hK' _ _ ⟨_, _, _, _, rfl, iy⟩ hby (by simp)
              · omega
            · intro vs wx hvl hb hf hdist
              have hvs := len10 hvl
              obtain ⟨s53, s54, s55, s56, s57, s58, s59, s60, s61, s62, rfl⟩ := hvs
              have f9 : (intF ((n * 10 + m : Nat) : Int)).P s62 wx := hf 9 (by decide)
              obtain ⟨d7, p7, m7, c7, rfl, i7⟩ := f9
              have hc := (Hcell.out.below hb).pair
              obtain ⟨_, _, q0, q1, q2, q3⟩ := hc.cells
              clear hf hdist hvl
              refine wpAny_one (i := 10) (by kernel_rfl) rfl ?_
              intro K hK
              simp only [putAll, Act.put, List.setIfInBounds_toArray, List.set_cons_zero, List.set_cons_succ]
              go_simp
              have hK' := hK.out
              apply hK'
              clear hK hK'
              refine wpAny_done (by kernel_rfl) ?_ _
              have F1 := IntCell.put hc i7
              have F2 := hid (Pair.apart (hpr.out.below hb) (show w.heap.size ≠ w.heap.size + 1 by omega) (.bool d7) (.slice p7 m7 c7))
              have F3 := hid (Below.stored (hbel.out.trans (hb.mono (B' := w.heap.size) (by omega))) (g := w.heap.size + 1) (by omega) (.bool d7) (.slice p7 m7 c7))
              have F4 : w.heap.size + 2 ≤ ((wx.setCell ⟨w.heap.size + 1, 0, none⟩ (.bool d7)).setCell ⟨w.heap.size + 1, 1, none⟩ (.slice p7 m7 c7)).heap.size := by have := hb.size; simp [World.setCell]; omega
              rw [← hnx.out] at F1
              generalize ((wx.setCell ⟨w.heap.size + 1, 0, none⟩ (.bool d7)).setCell ⟨w.heap.size + 1, 1, none⟩ (.slice p7 m7 c7)) = wz at *
              clear q0 q1 q2 q3 hc
              go_wp2_with fail
              go_roundw
              case rel => exact ⟨k + 1, by omega, by go_num, F1, hdig', F2.out, F3.out, F4⟩
              case measure => (simp [intOf] <;> omega)
      · have hf : Hid (r = true) := by
          unfold Hid; rw [hr2.out]
          exact all_digits.2 fun j h => hdig.out j h (by omega)
        have hall : s.data.toList.take k = s.data.toList := List.take_of_length_le (by rw [Array.length_toList, show s.data.size = s.size from rfl]; omega)
        rw [hall] at hcell
        obtain ⟨d5, p5, m5, c5, e5, i5⟩ := hcell
        obtain ⟨x50, x51, -, -⟩ := two_cells e5
        have hsz : (dig W (numL s.data.toList)).length ≤ 4096 := by
          have h1 := numL_szW s.data.toList (fun c hc => by
            obtain ⟨j, hj, rfl⟩ := List.getElem_of_mem hc
            exact (hdig.out j (by simpa using hj) (by have : s.data.toList.length = s.size := Array.length_toList; omega)).2)
          rw [Array.length_toList, show s.data.size = s.size from rfl] at h1
          exact Nat.le_trans h1 hl
        have hat : At wr .u64 (.slice p5 m5 c5) (dig W (numL s.data.toList)) := by
          obtain ⟨u, hu, hua⟩ := i5
          injection hu with hu
          simp at hu
          rw [hu.2]
          simpa using hua
        have hwh := Whole_any false _ _ wr hat (small_dig W2 _) (by omega)
        rw [val_dig W2] at hwh
        have Hwh := hid hwh
        clear hdig hr2 hsz hat hwh i5 e5
        go_wp2_with fail
        refine Hwh.out.mono ?_
        rintro e w3 ⟨v3, rfl, hi3, hb3⟩
        obtain ⟨p3, n3, c3, rfl, hi3⟩ := hi3.shape
        have hpr3 := hpr.out.below hb3
        have hbel3 := hbel.out.trans (hb3.mono (B' := w.heap.size) (by omega))
        obtain ⟨_, _, q0, q1, q2, q3⟩ := hpr3.cells
        clear x50 x51 hb3
        go_wp2
        rw [hf.out]
        exact bodyPost_ret (v := .tuple #[.agg #[.bool (decide (sg false (numL s.data.toList) < 0)), .slice p3 n3 c3], .int .i64 0]) (by simp [results, Tryd.results34, go_sem, q0, q1]) rfl
          ⟨_, rfl, hi3.stored hpr3 _ _ _ _, Below.stored hbel3 (Nat.le_refl _) _ _⟩
end Go.Proofs.YtippcalhcnjghaaDoor
