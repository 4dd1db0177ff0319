/- Texts put together: RefParse2, RefParse3, WholeSub, Fixed, LawParses, Laid. -/
import Derived.Test.YtippcalhcnjghaaDoorParsesCardM10
import Derived.Test.YtippcalhcnjghaaDoorCards
import Derived.Test.YtippcalhcnjghaaDoorTie
import Derived.WalkKit
import Derived.ProofKit
import Derived.OpenShut
import Derived.Deep.DeepHandedRow
import Derived.Lib.LaidTab
/- elenchusref01.Parse of a text that begins with a sign. -/
namespace Go.Proofs.YtippcalhcnjghaaDoor
open Go.RowKit Big
open Go.Lib (toList_data)

set_option maxRecDepth 100000 in
set_option maxHeartbeats 6400000 in
theorem RParse_below (s t : ByteArray) (w : World) (h0 : 1 < s.size) (hl : s.size ≤ 4096) (hn : (s[0]'(by omega)).toNat = 45) (ht : s.extract 1 s.size = t) (h1 : 0 < t.size) (hz : (t[0]'h1).toNat ≠ 48) :
    Calls Tryd.prog 34 #[.string s] w (RParseIf (t.data.toList.all digB) (sg true (numL t.data.toList)) w) := by
  obtain ⟨r, hr⟩ : ∃ r, r = t.data.toList.all digB := ⟨_, rfl⟩
  rw [← hr]
  have hr2 := hid hr
  clear hr
  have hemp : t.toList.isEmpty = false := by
    rw [toList_data]
    have : t.data.toList.length = t.size := Array.length_toList
    cases he : t.data.toList with
    | nil => rw [he] at this; simp at this; omega
    | cons => rfl
  have hnil : ¬ t.toList = [] := fun e => by rw [e] at hemp; cases hemp
  have hts : t.size < s.size := by rw [← ht, ByteArray.size_extract]; omega
  have Hts := hid hts
  have hts4 : t.size ≤ 4096 := by omega
  clear hts
  go_enter Tryd.func34, Tryd.ntmps34
  go_wp2_with fail
  clear hn ht hz hemp hnil h0
  generalize hW : World.alloc (World.alloc w _) _ = W1
  have bw : Below w.heap.size w W1 := by rw [← hW]; exact (below1 _ _).alloc (by simp) _
  have hp : Pair W1 w.heap.size 25 := by rw [← hW]; exact Pair.below (Pair.new ..) (below1 _ _)
  have hx : IntCell W1 (w.heap.size + 1) (0 : Nat) := by rw [← hW]; exact ⟨_, _, _, _, heap_new2 _ _ _, IntAt.zero _⟩
  have z1 : W1.heap.size = w.heap.size + 2 := by rw [← hW]; simp
  have Bw := hid bw; have Hp := hid hp
  clear hW bw hp
  go_loopw [6] (fun i wr => ∃ k : Nat, k ≤ t.size ∧ i = .int .i64 (k : Nat) ∧ IntCell wr (w.heap.size + 1) (numL (t.data.toList.take k) : Nat) ∧ Hid (∀ j (h : j < t.size), j < k → 48 ≤ (t[j]'h).toNat ∧ (t[j]'h).toNat ≤ 57) ∧ Hid (Pair wr w.heap.size 25) ∧ Hid (Below w.heap.size w wr) ∧ w.heap.size + 2 ≤ wr.heap.size) (fun i _ => t.size - (intOf i).toNat)
  case atStart => exact ⟨0, Nat.zero_le _, rfl, hx, (fun j h hj => absurd hj (Nat.not_lt_zero _)), Hp.out, Bw.out, by omega⟩
  case round =>
    obtain ⟨k, hk, rfl, hcell, hdig, hpr, hbel, hzr⟩ := hrel
    by_cases hlt : k < t.size
    · by_cases hd1 : (t[k]'hlt).toNat < 48
      · have hf : Hid (r = false) := by
          unfold Hid; rw [hr2.out]
          cases hall : t.data.toList.all digB with
          | false => rfl
          | true => exact absurd (all_digits.1 hall k hlt).1 (by omega)
        obtain ⟨_, _, q0, q1, q2, q3⟩ := hpr.out.cells
        clear hr2 hdig
        go_wp2_with fail
        rw [hf.out]
        exact bodyPost_ret (v := .tuple #[.agg #[.bool false, .slice none 0 0], .int .i64 6]) (by simp [results, Tryd.results34, go_sem, q0, q1]) rfl ⟨_, rfl, IntAt.zero _, Below.stored hbel.out (Nat.le_refl _) _ _⟩
      · by_cases hd2 : 57 < (t[k]'hlt).toNat
        · have hf : Hid (r = false) := by
            unfold Hid; rw [hr2.out]
            cases hall : t.data.toList.all digB with
            | false => rfl
            | true => exact absurd (all_digits.1 hall k hlt).2 (by omega)
          obtain ⟨_, _, q0, q1, q2, q3⟩ := hpr.out.cells
          clear hr2 hdig
          go_wp2_with fail
          rw [hf.out]
          exact bodyPost_ret (v := .tuple #[.agg #[.bool false, .slice none 0 0], .int .i64 6]) (by simp [results, Tryd.results34, go_sem, q0, q1]) rfl ⟨_, rfl, IntAt.zero _, Below.stored hbel.out (Nat.le_refl _) _ _⟩
        · have hdig' : Hid (∀ j (h : j < t.size), j < k + 1 → 48 ≤ (t[j]'h).toNat ∧ (t[j]'h).toNat ≤ 57) := fun j h hj => by
            by_cases hjk : j = k
            · subst hjk; exact ⟨by omega, by omega⟩
            · exact hdig.out j h (by omega)
          obtain ⟨n, hnn⟩ : ∃ n, n = numL (t.data.toList.take k) := ⟨_, rfl⟩
          have hsn : sz W n ≤ 4096 := by
            have h1 := numL_szW (t.data.toList.take k) (fun c hc => by
              obtain ⟨j, hj, rfl⟩ := List.getElem_of_mem hc
              rw [List.length_take] at hj
              rw [List.getElem_take]
              exact (hdig.out j (by omega) (by omega)).2)
            rw [List.length_take] at h1
            rw [hnn]; omega
          have hsn10 : sz W (n * 10) ≤ 5000 := by
            have h1 := sz_mul W2 n 10
            have h2 : sz W 10 ≤ 1 := sz_le_of_lt W2 (by decide)
            omega
          obtain ⟨m, hm⟩ : ∃ m, m = (t[k]'hlt).toNat - 48 := ⟨_, rfl⟩
          have hnx : Hid (numL (t.data.toList.take (k + 1)) = n * 10 + m) := by
            unfold Hid
            rw [hnn, hm, ← numL_snoc, List.take_succ_eq_append_getElem (by simpa using hlt)]
            rfl
          have hmb : m < 10 := by omega
          have em : IntKind.u8.wrap (((t[k]'hlt).toNat : Int) - 48) = (m : Nat) := by
            rw [show (((t[k]'hlt).toNat : Int) - 48) = (m : Nat) by omega]
            exact wrap_u8 hmb
          have em2 : IntKind.i64.wrap (m : Int) = (m : Nat) := by
            exact wrap_i64 hmb
          have Hem2 := hid em2
          clear em2
          rw [← hnn] at hcell
          have Hem := hid em; have Hcell := hid hcell
          clear hnn hm hdig hr2 em hcell
          go_upto_region 12 with fail
          refine wp_region_facts (w0 := wr) 10 1 [53, 54, 55, 56, 57, 58, 59, 60, 61, 62] [u53, u54, u55, u56, u57, u58, u59, u60, u61, u62]
            (fun i => match i with
              | 0 => intF (n : Nat) | 1 => intF 10 | 2 => intF ((n * 10 : Nat) : Int) | 3 => eqF (.string t) | 4 => eqF (.int .i64 (k : Nat)) | 5 => eqF (.int .u8 ((t[k]'hlt).toNat : Nat)) | 6 => eqF (.int .u8 (m : Nat)) | 7 => eqF (.int .i64 (m : Nat)) | 8 => intF (m : Nat)
              | _ => intF ((n * 10 + m : Nat) : Int)) [] (by kernel_rfl) (by kernel_rfl) (by kernel_rfl) (by kernel_rfl) (by decide) rfl (by kernel_rfl) rfl (by simp) ?he ?_ ?_ ?_
          case he => simp only [putAll, Act.put, List.setIfInBounds_toArray, List.set_cons_zero, List.set_cons_succ]
          · intro i hi; simp at hi
          · intro i o hi ho vs wx hvl hb hdep K hK
            have hvs := len10 hvl
            obtain ⟨s53, s54, s55, s56, s57, s58, s59, s60, s61, s62, rfl⟩ := hvs
            clear hvl
            rcases i with _ | _ | _ | _ | _ | _ | _ | _ | _ | _ | i
            all_goals (simp only [List.getElem?_toArray, List.getElem?_cons_zero, List.getElem?_cons_succ, Option.some.injEq] at ho)
            all_goals try (subst ho)
            all_goals try simp only [putAll, Act.put, List.setIfInBounds_toArray, List.set_cons_zero, List.set_cons_succ]
            · have hc := Hcell.out.below hb
              obtain ⟨d5, p5, m5, c5, e5, i5⟩ := hc
              have e5' := two_cells e5
              obtain ⟨x50, x51, -, -⟩ := e5'
              go_simp
              have hK' := hK.out
              simp only [putAll, Act.put, List.setIfInBounds_toArray, List.set_cons_zero, List.set_cons_succ] at hK'
              exact hK' _ _ ⟨_, _, _, _, rfl, i5⟩ (Below.refl _ _) (by simp)
            · go_simp
              refine (ROf_any 10 _ (by decide) (by decide)).mono ?_
              rintro e wy ⟨vy, rfl, iy, hby⟩
              have hsh := iy.shape
              obtain ⟨p5, n5, c5, rfl, iy⟩ := hsh
              go_wp2_with fail
              have hK' := hK.out
              simp only [putAll, Act.put, List.setIfInBounds_toArray, List.set_cons_zero, List.set_cons_succ] at hK'
              exact hK' _ _ ⟨_, _, _, _, rfl, iy⟩ hby (by simp)
            · have d0 : (intF (n : Nat)).P s53 wx := hdep ⟨0, .data⟩ (by simp) rfl
              have d1 : (intF 10).P s54 wx := hdep ⟨1, .data⟩ (by simp) rfl
              obtain ⟨da, pa, na, ca, rfl, ia⟩ := d0
              obtain ⟨db, pb, nb, cb, rfl, ib⟩ := d1
              go_simp
              refine (RMul_any _ _ _ _ _ (ia.raw (by show sz W n ≤ _; omega)) (ib.raw (by decide)) (by show sz W n ≤ _; omega) (by decide)).mono ?_
              rintro e wy ⟨vy, rfl, iy, hby⟩
              have hsh := iy.shape
              obtain ⟨p5, n5, c5, rfl, iy⟩ := hsh
              go_wp2_with fail
              have hK' := hK.out
              simp only [putAll, Act.put, List.setIfInBounds_toArray, List.set_cons_zero, List.set_cons_succ] at hK'
              exact hK' _ _ ⟨_, _, _, _, rfl, iy⟩ hby (by simp)
            · go_simp
              have hK' := hK.out
              simp only [putAll, Act.put, List.setIfInBounds_toArray, List.set_cons_zero, List.set_cons_succ] at hK'
              exact hK' _ _ rfl (Below.refl _ _) (by simp)
            · go_simp
              have hK' := hK.out
              simp only [putAll, Act.put, List.setIfInBounds_toArray, List.set_cons_zero, List.set_cons_succ] at hK'
              exact hK' _ _ rfl (Below.refl _ _) (by simp)
            · have d3 : s56 = _ := hdep ⟨3, .data⟩ (by simp) rfl
              have d4 : s57 = _ := hdep ⟨4, .data⟩ (by simp) rfl
              subst d3 d4
              go_simp
              have hK' := hK.out
              simp only [putAll, Act.put, List.setIfInBounds_toArray, List.set_cons_zero, List.set_cons_succ] at hK'
              exact hK' _ _ rfl (Below.refl _ _) (by simp)
            · have d5 : s58 = _ := hdep ⟨5, .data⟩ (by simp) rfl
              subst d5
              go_simp
              have hK' := hK.out
              simp only [putAll, Act.put, List.setIfInBounds_toArray, List.set_cons_zero, List.set_cons_succ] at hK'
              rw [Hem.out]
              exact hK' _ _ rfl (Below.refl _ _) (by simp)
            · have d6 : s59 = _ := hdep ⟨6, .data⟩ (by simp) rfl
              subst d6
              go_simp
              have hK' := hK.out
              simp only [putAll, Act.put, List.setIfInBounds_toArray, List.set_cons_zero, List.set_cons_succ] at hK'
              rw [Hem2.out]
              exact hK' _ _ rfl (Below.refl _ _) (by simp)
            · have d7 : s60 = _ := hdep ⟨7, .data⟩ (by simp) rfl
              subst d7
              go_simp
              refine (ROf_any (m : Nat) _ (by omega) (by omega)).mono ?_
              rintro e wy ⟨vy, rfl, iy, hby⟩
              have hsh := iy.shape
              obtain ⟨p5, n5, c5, rfl, iy⟩ := hsh
              go_wp2_with fail
              have hK' := hK.out
              simp only [putAll, Act.put, List.setIfInBounds_toArray, List.set_cons_zero, List.set_cons_succ] at hK'
              exact hK' _ _ ⟨_, _, _, _, rfl, iy⟩ hby (by simp)
            · have d2 : (intF ((n * 10 : Nat) : Int)).P s55 wx := hdep ⟨2, .data⟩ (by simp) rfl
              have d8 : (intF (m : Nat)).P s61 wx := hdep ⟨8, .data⟩ (by simp) rfl
              obtain ⟨da, pa, na, ca, rfl, ia⟩ := d2
              obtain ⟨db, pb, nb, cb, rfl, ib⟩ := d8
              go_simp
              refine (RAdd_any _ _ _ _ _ (ia.raw (by show sz W (n * 10) ≤ _; omega)) (ib.raw (by have := sz_few hmb; show sz W m ≤ _; omega))).mono ?_
              rintro e wy ⟨vy, rfl, iy, hby⟩
              have hsh := iy.shape
              obtain ⟨p5, n5, c5, rfl, iy⟩ := hsh
              go_wp2_with fail
              have hK' := hK.out
              simp only [putAll, Act.put, List.setIfInBounds_toArray, List.set_cons_zero, List.set_cons_succ] at hK'
              exact hK' _ _ ⟨_, _, _, _, rfl, iy⟩ hby (by simp)
            · omega
          · intro vs wx hvl hb hf hdist
            have hvs := len10 hvl
            obtain ⟨s53, s54, s55, s56, s57, s58, s59, s60, s61, s62, rfl⟩ := hvs
            have f9 : (intF ((n * 10 + m : Nat) : Int)).P s62 wx := hf 9 (by decide)
            obtain ⟨d7, p7, m7, c7, rfl, i7⟩ := f9
            have hc := (Hcell.out.below hb).pair
            obtain ⟨_, _, q0, q1, q2, q3⟩ := hc.cells
            clear hf hdist hvl
            refine wpAny_one (i := 10) (by kernel_rfl) rfl ?_
            intro K hK
            simp only [putAll, Act.put, List.setIfInBounds_toArray, List.set_cons_zero, List.set_cons_succ]
            go_simp
            have hK' := hK.out
            apply hK'
            clear hK hK'
            refine wpAny_done (by kernel_rfl) ?_ _
            have F1 := IntCell.put hc i7
            have F2 := hid (Pair.apart (hpr.out.below hb) (show w.heap.size ≠ w.heap.size + 1 by omega) (.bool d7) (.slice p7 m7 c7))
            have F3 := hid (Below.stored (hbel.out.trans (hb.mono (B' := w.heap.size) (by omega))) (g := w.heap.size + 1) (by omega) (.bool d7) (.slice p7 m7 c7))
            have F4 : w.heap.size + 2 ≤ ((wx.setCell ⟨w.heap.size + 1, 0, none⟩ (.bool d7)).setCell ⟨w.heap.size + 1, 1, none⟩ (.slice p7 m7 c7)).heap.size := by have := hb.size; simp [World.setCell]; omega
            rw [← hnx.out] at F1
            generalize ((wx.setCell ⟨w.heap.size + 1, 0, none⟩ (.bool d7)).setCell ⟨w.heap.size + 1, 1, none⟩ (.slice p7 m7 c7)) = wz at *
            clear q0 q1 q2 q3 hc
            go_wp2_with fail
            go_roundw
            case rel => exact ⟨k + 1, by omega, by go_num, F1, hdig', F2.out, F3.out, F4⟩
            case measure => (simp [intOf] <;> omega)
    · have hf : Hid (r = true) := by
        unfold Hid; rw [hr2.out]
        exact all_digits.2 fun j h => hdig.out j h (by omega)
      have hall : t.data.toList.take k = t.data.toList := List.take_of_length_le (by rw [Array.length_toList, show t.data.size = t.size from rfl]; omega)
      rw [hall] at hcell
      obtain ⟨d5, p5, m5, c5, e5, i5⟩ := hcell
      obtain ⟨x50, x51, -, -⟩ := two_cells e5
      have hsz : (dig W (numL t.data.toList)).length ≤ 4096 := by
        have h1 := numL_szW t.data.toList (fun c hc => by
          obtain ⟨j, hj, rfl⟩ := List.getElem_of_mem hc
          exact (hdig.out j (by simpa using hj) (by have : t.data.toList.length = t.size := Array.length_toList; omega)).2)
        rw [Array.length_toList, show t.data.size = t.size from rfl] at h1
        exact Nat.le_trans h1 (by have := Hts.out; omega)
      have hat : At wr .u64 (.slice p5 m5 c5) (dig W (numL t.data.toList)) := by
        obtain ⟨u, hu, hua⟩ := i5
        injection hu with hu
        simp at hu
        rw [hu.2]
        simpa using hua
      have hwh := Whole_any true _ _ wr hat (small_dig W2 _) (by omega)
      rw [val_dig W2] at hwh
      have Hwh := hid hwh
      clear hdig hr2 hsz hat hwh i5 e5
      have hts := Hts.out
      go_wp2_with fail
      refine Hwh.out.mono ?_
      rintro e w3 ⟨v3, rfl, hi3, hb3⟩
      obtain ⟨p3, n3, c3, rfl, hi3⟩ := hi3.shape
      have hpr3 := hpr.out.below hb3
      have hbel3 := hbel.out.trans (hb3.mono (B' := w.heap.size) (by omega))
      obtain ⟨_, _, q0, q1, q2, q3⟩ := hpr3.cells
      clear x50 x51 hb3
      go_wp2
      rw [hf.out]
      exact bodyPost_ret (v := .tuple #[.agg #[.bool (decide (sg true (numL t.data.toList) < 0)), .slice p3 n3 c3], .int .i64 0]) (by simp [results, Tryd.results34, go_sem, q0, q1]) rfl
        ⟨_, rfl, hi3.stored hpr3 _ _ _ _, Below.stored hbel3 (Nat.le_refl _) _ _⟩
end Go.Proofs.YtippcalhcnjghaaDoor
/- elenchusref01.Parse of any text. -/
namespace Go.Proofs.YtippcalhcnjghaaDoor
open Go.RowKit Big
open Go.Lib (toList_data)

theorem bytes_eq {a b : ByteArray} (h : a.data.toList = b.data.toList) : a = b := by
  cases a with | mk a => cases b with | mk b => exact congrArg ByteArray.mk (Array.toList_inj.1 h)
theorem extract_one (c : UInt8) (l : List UInt8) : (⟨⟨c :: l⟩⟩ : ByteArray).extract 1 (l.length + 1) = ⟨⟨l⟩⟩ := by
  apply bytes_eq
  rw [ByteArray.data_extract]
  simp

set_option maxRecDepth 100000 in
set_option maxHeartbeats 1600000 in
theorem RParse_empty (w : World) : Calls Tryd.prog 34 #[.string ⟨#[]⟩] w (RParse 0 6 w) := by
  go_enter Tryd.func34, Tryd.ntmps34
  go_wp2_with fail
  exact bodyPost_ret (v := .tuple #[.agg #[.bool false, .slice none 0 0], .int .i64 6]) (by simp [results, Tryd.results34, go_sem]) rfl ⟨_, rfl, IntAt.zero _, below1 _ _⟩
set_option maxRecDepth 100000 in
set_option maxHeartbeats 1600000 in
theorem RParse_sign (w : World) : Calls Tryd.prog 34 #[.string ⟨#[45]⟩] w (RParse 0 6 w) := by
  have he : (⟨#[45]⟩ : ByteArray).extract 1 1 = ⟨#[]⟩ := by decide +kernel
  go_enter Tryd.func34, Tryd.ntmps34
  go_wp2_with fail
  exact bodyPost_ret (v := .tuple #[.agg #[.bool false, .slice none 0 0], .int .i64 6]) (by simp [results, Tryd.results34, go_sem]) rfl ⟨_, rfl, IntAt.zero _, below1 _ _⟩
set_option maxRecDepth 100000 in
set_option maxHeartbeats 1600000 in
theorem RParse_signed_out (s t : ByteArray) (w : World) (h0 : 1 < s.size) (hs : s.size ≤ 1099511627776) (hn : (s[0]'(by omega)).toNat = 45) (ht : s.extract 1 s.size = t) (h1 : 0 < t.size) (hz : ¬ s.size ≤ 4096 ∨ (t[0]'h1).toNat = 48) :
    Calls Tryd.prog 34 #[.string s] w (RParse 0 6 w) := by
  have hemp : t.toList.isEmpty = false := by
    rw [toList_data]
    have : t.data.toList.length = t.size := Array.length_toList
    cases he : t.data.toList with
    | nil => rw [he] at this; simp at this; omega
    | cons => rfl
  have hnil : ¬ t.toList = [] := fun e => by rw [e] at hemp; cases hemp
  have hne : (s.toList == [48]) = false := by
    rw [toList_data]
    have : s.data.toList.length = s.size := Array.length_toList
    cases h : s.data.toList == [48] with
    | false => rfl
    | true => rw [beq_iff_eq.1 h] at this; simp at this; omega
  have hne2 : ¬ s.toList = [48] := fun e => by rw [e] at hne; cases hne
  by_cases hl : s.size ≤ 4096
  · have hz2 : (t[0]'h1).toNat = 48 := by rcases hz with h | h; exact absurd hl h; exact h
    clear hz
    go_enter Tryd.func34, Tryd.ntmps34
    go_wp2_with fail
    exact bodyPost_ret (v := .tuple #[.agg #[.bool false, .slice none 0 0], .int .i64 6]) (by simp [results, Tryd.results34, go_sem]) rfl ⟨_, rfl, IntAt.zero _, below1 _ _⟩
  · clear hz
    go_enter Tryd.func34, Tryd.ntmps34
    go_wp2_with fail
    exact bodyPost_ret (v := .tuple #[.agg #[.bool false, .slice none 0 0], .int .i64 6]) (by simp [results, Tryd.results34, go_sem]) rfl ⟨_, rfl, IntAt.zero _, below1 _ _⟩
set_option maxRecDepth 100000 in
set_option maxHeartbeats 1600000 in
theorem RParse_plain_out (s : ByteArray) (w : World) (h0 : 0 < s.size) (hs : s.size ≤ 1099511627776) (hn : (s[0]'h0).toNat ≠ 45) (hz : ¬ s.size ≤ 4096 ∨ ((s[0]'h0).toNat = 48 ∧ (s.toList == [48]) = false)) :
    Calls Tryd.prog 34 #[.string s] w (RParse 0 6 w) := by
  have hemp : s.toList.isEmpty = false := by
    rw [toList_data]
    have : s.data.toList.length = s.size := Array.length_toList
    cases he : s.data.toList with
    | nil => rw [he] at this; simp at this; omega
    | cons => rfl
  have hnil : ¬ s.toList = [] := fun e => by rw [e] at hemp; cases hemp
  by_cases hl : s.size ≤ 4096
  · have hz2 : (s[0]'h0).toNat = 48 ∧ (s.toList == [48]) = false := by rcases hz with h | h; exact absurd hl h; exact h
    clear hz
    obtain ⟨hz3, hne⟩ := hz2
    have hne2 : ¬ s.toList = [48] := fun e => by rw [e] at hne; cases hne
    go_enter Tryd.func34, Tryd.ntmps34
    go_wp2_with fail
    exact bodyPost_ret (v := .tuple #[.agg #[.bool false, .slice none 0 0], .int .i64 6]) (by simp [results, Tryd.results34, go_sem]) rfl ⟨_, rfl, IntAt.zero _, below1 _ _⟩
  · clear hz
    go_enter Tryd.func34, Tryd.ntmps34
    go_wp2_with fail
    exact bodyPost_ret (v := .tuple #[.agg #[.bool false, .slice none 0 0], .int .i64 6]) (by simp [results, Tryd.results34, go_sem]) rfl ⟨_, rfl, IntAt.zero _, below1 _ _⟩
theorem u8_ne {c : UInt8} (h : c ≠ 45) : c.toNat ≠ 45 := fun e => h (UInt8.toNat_inj.1 (by rw [e]; rfl))
theorem u8_48 {c : UInt8} (h : c.toNat = 48) : c = 48 := UInt8.toNat_inj.1 (by rw [h]; rfl)
theorem RParse_any (s : ByteArray) (w : World) (hs : s.size ≤ 1099511627776) : Calls Tryd.prog 34 #[.string s] w (RParseIf (goodB s) (sg (below s) (numL (rest s).data.toList)) w) := by
  obtain ⟨⟨L⟩⟩ := s
  cases L with
  | nil =>
    have h : goodB ⟨⟨[]⟩⟩ = false := by decide +kernel
    rw [h]; exact RParse_empty w
  | cons c l =>
    have hsz : (⟨⟨c :: l⟩⟩ : ByteArray).size = l.length + 1 := rfl
    have htz : (⟨⟨l⟩⟩ : ByteArray).size = l.length := rfl
    rw [hsz] at hs
    by_cases hc : c = 45
    · subst hc
      have hb : below ⟨⟨45 :: l⟩⟩ = true := by simp [below, Lib.hasPrefix]
      have hr : rest ⟨⟨45 :: l⟩⟩ = ⟨⟨l⟩⟩ := by simp [rest, Lib.trimPrefix, Lib.hasPrefix]
      cases l with
      | nil =>
        have h : goodB ⟨⟨[45]⟩⟩ = false := by decide +kernel
        rw [h]; exact RParse_sign w
      | cons d l =>
        have hx := extract_one 45 (d :: l)
        by_cases hl : l.length + 1 + 1 ≤ 4096
        · by_cases hd : d.toNat = 48
          · have hg : goodB ⟨⟨45 :: d :: l⟩⟩ = false := by
              have := u8_48 hd
              subst this
              unfold goodB szB
              rw [hb, hr]
              cases l <;> simp [ByteArray.size]
            rw [hg]
            exact RParse_signed_out _ ⟨⟨d :: l⟩⟩ w (by rw [hsz]; simp) (by rw [hsz]; exact hs) rfl hx (by simp [ByteArray.size]) (.inr hd)
          · have hg : goodB ⟨⟨45 :: d :: l⟩⟩ = (d :: l).all digB := by
              unfold goodB szB
              rw [hb, hr]
              have h1 : ¬ d = 48 := fun e => hd (by rw [e]; rfl)
              have h2 : (⟨⟨45 :: d :: l⟩⟩ : ByteArray).size ≤ 4096 := hl
              have h3 : 0 < (⟨⟨d :: l⟩⟩ : ByteArray).size := by simp [ByteArray.size]
              simp [h1, h2, h3, hd]
            rw [hg, hb, hr]
            exact RParse_below _ ⟨⟨d :: l⟩⟩ w (by rw [hsz]; simp) (by rw [hsz]; exact hl) rfl hx (by simp [ByteArray.size]) hd
        · have hg : goodB ⟨⟨45 :: d :: l⟩⟩ = false := by
            unfold goodB
            rw [decide_eq_false (by rw [hsz]; exact hl)]; rfl
          rw [hg]
          exact RParse_signed_out _ ⟨⟨d :: l⟩⟩ w (by rw [hsz]; simp) (by rw [hsz]; exact hs) rfl hx (by simp [ByteArray.size]) (.inl (by rw [hsz]; exact hl))
    · have hcn := u8_ne hc
      have hb : below ⟨⟨c :: l⟩⟩ = false := by simp [below, Lib.hasPrefix, List.isPrefixOf, Ne.symm hc]
      have hr : rest ⟨⟨c :: l⟩⟩ = ⟨⟨c :: l⟩⟩ := by simp [rest, Lib.trimPrefix, Lib.hasPrefix, List.isPrefixOf, Ne.symm hc]
      have h0 : 0 < (⟨⟨c :: l⟩⟩ : ByteArray).size := by rw [hsz]; simp
      by_cases hl : l.length + 1 ≤ 4096
      · have h2 : (⟨⟨c :: l⟩⟩ : ByteArray).size ≤ 4096 := hl
        by_cases hd : c.toNat = 48
        · have := u8_48 hd
          subst this
          cases l with
          | nil =>
            have hg : goodB ⟨⟨[48]⟩⟩ = ([48] : List UInt8).all digB := by decide +kernel
            rw [hg, hb, hr]
            exact RParse_plain _ w h0 h2 hcn (fun _ => by rw [toList_data]; rfl)
          | cons d l =>
            have hg : goodB ⟨⟨48 :: d :: l⟩⟩ = false := by
              unfold goodB szB
              rw [hb, hr]
              simp [ByteArray.size]
            rw [hg]
            exact RParse_plain_out _ w h0 (by rw [hsz]; exact hs) hcn (.inr ⟨rfl, by rw [toList_data]; rfl⟩)
        · have hg : goodB ⟨⟨c :: l⟩⟩ = (c :: l).all digB := by
            unfold goodB szB
            rw [hb, hr]
            simp [h2, h0, hd]
          rw [hg, hb, hr]
          exact RParse_plain _ w h0 h2 hcn (fun h => absurd h hd)
      · have hg : goodB ⟨⟨c :: l⟩⟩ = false := by
          unfold goodB
          rw [decide_eq_false (by rw [hsz]; exact hl)]; rfl
        rw [hg]
        exact RParse_plain_out _ w h0 (by rw [hsz]; exact hs) hcn (.inl (by rw [hsz]; exact hl))
end Go.Proofs.YtippcalhcnjghaaDoor
/- whole.Sub, Of. -/
namespace Go.Proofs.YtippcalhcnjghaaDoor
open Go.RowKit Big

set_option maxHeartbeats 1600000 in
theorem Sub_any (v0 v1 : Value) (a b : Int) (w : World) (h0 : RawAt w v0 a) (h1 : RawAt w v1 b) : Calls Tryd.prog 15 #[v0, v1] w (RInt (a - b) w) := by
  obtain ⟨n1, s1, l1, rfl, a1, b1, c1, hb⟩ := h1
  have hn : ∀ W, Below w.heap.size w W → RawAt W (.agg #[.bool (!n1), s1]) (-b) := fun W h => ⟨!n1, s1, l1, rfl, a1.below h, b1, c1, by rw [hb]; unfold sg; cases n1 <;> simp⟩
  have hs : a - b = a + -b := by omega
  rw [hs]
  have Hn := hid hn
  obtain ⟨p1', c1', rfl, -⟩ := a1
  clear hn hs hb b1 c1
  obtain ⟨n0, s0, l0, rfl, r0⟩ := id h0
  clear r0
  go_enter Tryd.func15, Tryd.ntmps15
  go_wp2_with fail
  refine (Add_any _ _ _ _ _ (h0.below (((below1 _ _).alloc (by simp) _).alloc (by simp; omega) _)) (Hn.out _ (((below1 _ _).alloc (by simp) _).alloc (by simp; omega) _))).mono ?_
  rintro e w1 ⟨v1, rfl, hi1, hb1⟩
  obtain ⟨p1, m1, c1, rfl, hi1⟩ := hi1.shape
  have hpr : Pair w1 (w.heap.size + 1 + 1) 25 := Pair.below (Pair.new2 ..) hb1
  obtain ⟨_, _, q0, q1, q2, q3⟩ := hpr.cells
  have bw : Below w.heap.size w w1 := (((below1 _ _).alloc (by simp) _).alloc (by simp; omega) _).trans (hb1.mono (B' := w.heap.size) (by simp; omega))
  have z1 : w.heap.size + 3 ≤ w1.heap.size := by have := hb1.size; simp at this; omega
  clear hb1
  go_wp2
  exact bodyPost_ret (v := .agg #[.bool (decide (a + -b < 0)), .slice p1 m1 c1]) (by simp [results, Tryd.results15, go_sem, q0, q1]) rfl
    ⟨_, rfl, hi1.stored hpr _ _ _ _, Below.stored bw (by omega) _ _⟩
theorem wrap_neg_neg (n : Nat) (h0 : 0 < n) (h : n < W) : IntKind.u64.wrap (-IntKind.u64.wrap (-(n : Int))) = (n : Int) := by
  unfold W at h
  simp only [IntKind.wrap, IntKind.bits, IntKind.signed]
  simp
  omega

set_option maxHeartbeats 800000 in
theorem Of_any (z : Int) (w : World) (h0 : -9223372036854775808 ≤ z) (h1 : z ≤ 9223372036854775807) : Calls Tryd.prog 31 #[.int .i64 z] w (RInt z w) := by
  by_cases hz : z < 0
  · obtain ⟨n, hn⟩ : ∃ n : Nat, z = -(n : Int) := ⟨z.natAbs, by omega⟩
    have Hn := hid hn
    have hnW : n < W := by unfold W; omega
    have Hz : Hid (sg true n = z) := by rw [hn]; rfl
    have hn0 : 0 < n := by omega
    clear hn
    subst_vars
    go_enter Tryd.func31, Tryd.ntmps31
    go_wp2_with fail
    rw [wrap_neg_neg n hn0 hnW]
    refine (ownWord_any n _ hnW).mono ?_
    rintro e w1 ⟨v1, rfl, ho1, hb1⟩
    go_wp2_with fail
    refine (told_any true v1 n _ ho1).mono ?_
    rintro e w2 ⟨v2, rfl, hi2, hb2⟩
    obtain ⟨p2, n2, c2, rfl, hi2⟩ := hi2.shape
    have hpr : Pair w2 w.heap.size 25 := Pair.below (Pair.below (Pair.new ..) hb1) hb2
    obtain ⟨_, _, q0, q1, q2, q3⟩ := hpr.cells
    have z1 : w.heap.size + 1 ≤ w1.heap.size := by have := hb1.size; simp at this; omega
    have bw : Below w.heap.size w w2 := ((below1 _ _).trans (hb1.mono (B' := w.heap.size) (by simp))).trans (hb2.mono (B' := w.heap.size) (by omega))
    have Hi := hid hi2
    clear hb1 hb2 hi2
    go_wp2
    exact bodyPost_ret (v := .agg #[.bool (decide (sg true n < 0)), .slice p2 n2 c2]) (by simp [results, Tryd.results31, go_sem, q0, q1]) rfl
      ⟨_, rfl, by rw [← Hz.out]; exact Hi.out.stored hpr _ _ _ _, Below.stored bw (by omega) _ _⟩
  · obtain ⟨n, hn⟩ : ∃ n : Nat, z = (n : Int) := ⟨z.natAbs, by omega⟩
    subst hn
    have hnW : n < W := by unfold W; omega
    go_enter Tryd.func31, Tryd.ntmps31
    go_wp2_with fail
    refine (ownWord_any n _ hnW).mono ?_
    rintro e w1 ⟨v1, rfl, ho1, hb1⟩
    go_wp2_with fail
    refine (told_any false v1 n _ ho1).mono ?_
    rintro e w2 ⟨v2, rfl, hi2, hb2⟩
    obtain ⟨p2, n2, c2, rfl, hi2⟩ := hi2.shape
    have hpr : Pair w2 w.heap.size 25 := Pair.below (Pair.below (Pair.new ..) hb1) hb2
    obtain ⟨_, _, q0, q1, q2, q3⟩ := hpr.cells
    have z1 : w.heap.size + 1 ≤ w1.heap.size := by have := hb1.size; simp at this; omega
    have bw : Below w.heap.size w w2 := ((below1 _ _).trans (hb1.mono (B' := w.heap.size) (by simp))).trans (hb2.mono (B' := w.heap.size) (by omega))
    have Hi := hid hi2
    clear hb1 hb2 hi2
    go_wp2
    exact bodyPost_ret (v := .agg #[.bool (decide (sg false n < 0)), .slice p2 n2 c2]) (by simp [results, Tryd.results31, go_sem, q0, q1]) rfl
      ⟨_, rfl, Hi.out.stored hpr _ _ _ _, Below.stored bw (by omega) _ _⟩
end Go.Proofs.YtippcalhcnjghaaDoor
/- elenchuslaw01.fixed answers true. -/
namespace Go.Proofs.YtippcalhcnjghaaDoor
open Go.RowKit Big

theorem IntAt.any {w : World} {v : Value} {z : Int} (h : IntAt w v z) : ∃ b p n c, v = .agg #[.bool b, .slice p n c] ∧ IntAt w (.agg #[.bool b, .slice p n c]) z := by
  obtain ⟨p, n, c, hv, hi⟩ := h.shape
  exact ⟨_, p, n, c, hv, hi⟩
theorem smallRaw {w : World} {v : Value} {z : Int} (h : IntAt w v z) (hz : z.natAbs < W) : RawAt w v z := h.raw (Nat.le_trans (sz_word hz) (by omega))
theorem DivSmall_any (v0 v1 : Value) (a b : Int) (w : World) (h0 : IntAt w v0 a) (h1 : IntAt w v1 b) (ha : a.natAbs < W) (hb : b.natAbs < W) (hb0 : b ≠ 0) :
    Calls Tryd.prog 25 #[v0, v1] w (RDiv (a / b) (a % b) 0 w) :=
  Div_of v0 v1 a b w (smallRaw h0 ha) (smallRaw h1 hb) hb0 fun W' u u' hu hu' => divide_small u u' _ _ W' hu hu' ha hb (by omega)
theorem Div_m7 (v0 v1 : Value) (w : World) (h0 : IntAt w v0 (-7)) (h1 : IntAt w v1 2) : Calls Tryd.prog 25 #[v0, v1] w (RDiv (-4) 1 0 w) :=
  DivSmall_any v0 v1 (-7) 2 w h0 h1 (by decide) (by decide) (by decide)
theorem Div_7 (v0 v1 : Value) (w : World) (h0 : IntAt w v0 7) (h1 : IntAt w v1 (-2)) : Calls Tryd.prog 25 #[v0, v1] w (RDiv (-3) 1 0 w) :=
  DivSmall_any v0 v1 7 (-2) w h0 h1 (by decide) (by decide) (by decide)
theorem print_1 (v : Value) (w : World) (h : IntAt w v 1) : Calls Tryd.prog 35 #[v] w (RStr [49] w) := by
  have := Print_small v false 1 w (smallRaw h (by decide)) (by decide) (by decide)
  rwa [show ((if false = true then [45] else []) ++ Lib.decDigits 1 : List UInt8) = [49] by decide +kernel] at this
theorem print_m3 (v : Value) (w : World) (h : IntAt w v (-3)) : Calls Tryd.prog 35 #[v] w (RStr [45, 51] w) := by
  have := Print_small v true 3 w (smallRaw h (by decide)) (by decide) (by decide)
  rwa [show ((if true = true then [45] else []) ++ Lib.decDigits 3 : List UInt8) = [45, 51] by decide +kernel] at this
theorem print_m4 (v : Value) (w : World) (h : IntAt w v (-4)) : Calls Tryd.prog 35 #[v] w (RStr [45, 52] w) := by
  have := Print_small v true 4 w (smallRaw h (by decide)) (by decide) (by decide)
  rwa [show ((if true = true then [45] else []) ++ Lib.decDigits 4 : List UInt8) = [45, 52] by decide +kernel] at this

/-- a variable that holds a whole number -/
def Var (w : World) (g : Nat) (b : Bool) (p : Option Addr) (n c : Nat) (z : Int) : Prop :=
  w.cell? ⟨g, 0, none⟩ = some (.bool b) ∧ w.cell? ⟨g, 1, none⟩ = some (.slice p n c) ∧ g < w.heap.size ∧ IntAt w (.agg #[.bool b, .slice p n c]) z
theorem Var.below {w w' : World} {g : Nat} {b : Bool} {p : Option Addr} {n c : Nat} {z : Int} (h : Var w g b p n c z) (hb : Below w.heap.size w w') : Var w' g b p n c z :=
  ⟨(hb.cell (p := ⟨g, 0, none⟩) h.2.2.1).trans h.1, (hb.cell (p := ⟨g, 1, none⟩) h.2.2.1).trans h.2.1, Nat.lt_of_lt_of_le h.2.2.1 hb.size, h.2.2.2.below hb⟩
theorem Var.new {w : World} {b : Bool} {p : Option Addr} {n c : Nat} {z : Int} {t : TypeId} (h : IntAt w (.agg #[.bool b, .slice p n c]) z) : Var (w.alloc (.cells #[.bool b, .slice p n c] t)) w.heap.size b p n c z :=
  ⟨(two_cells (heap_alloc_new w _)).1, (two_cells (heap_alloc_new w _)).2.1, by simp, h.below (below1 _ _)⟩
theorem Var.new1 {w : World} {o : Obj} {b : Bool} {p : Option Addr} {n c : Nat} {z : Int} {t : TypeId} (h : IntAt w (.agg #[.bool b, .slice p n c]) z) : Var ((w.alloc o).alloc (.cells #[.bool b, .slice p n c] t)) (w.heap.size + 1) b p n c z := by
  have := Var.new (t := t) (h.below (below1 w o))
  rwa [size_alloc] at this

set_option maxRecDepth 100000 in
set_option maxHeartbeats 1600000 in
theorem fixed_any (w : World) : Calls Tryd.prog 9 #[] w (RBool true w) := by
  go_enter Tryd.func9, Tryd.ntmps9
  go_wp2_with fail
  refine (Of_any (-7) _ (by decide) (by decide)).mono ?_
  rintro e w1 ⟨v1, rfl, i1, b1⟩
  go_wp2_with fail
  refine (Of_any 2 _ (by decide) (by decide)).mono ?_
  rintro e w2 ⟨v2, rfl, i2, b2⟩
  go_wp2_with fail
  refine (Div_m7 v1 v2 _ (i1.below b2) i2).mono ?_
  rintro e w3 ⟨q, r, rfl, iq, ir, b3⟩
  have bw3 := hid (b1.trans ((b2.mono (B' := w.heap.size) b1.size).trans (b3.mono (B' := w.heap.size) (Nat.le_trans b1.size b2.size))))
  obtain ⟨bq, pq, nq, cq, rfl, iq'⟩ := iq.any
  obtain ⟨br, pr, nr, cr, rfl, ir'⟩ := ir.any
  have Vq := (Var.new (t := 25) iq').below (below1 _ (.cells #[.bool br, .slice pr nr cr] 25))
  have Vr := Var.new1 (t := 25) (o := .cells #[.bool bq, .slice pq nq cq] 25) ir'
  have HVq := hid Vq; have HVr := hid Vr
  clear b1 b2 b3 i1 i2 iq ir iq' ir' Vq Vr
  go_wp2_with fail
  refine (Of_any 7 _ (by decide) (by decide)).mono ?_
  rintro e w4 ⟨v4, rfl, i4, b4⟩
  go_wp2_with fail
  refine (Of_any (-2) _ (by decide) (by decide)).mono ?_
  rintro e w5 ⟨v5, rfl, i5, b5⟩
  go_wp2_with fail
  refine (Div_7 v4 v5 _ (i4.below b5) i5).mono ?_
  rintro e w6 ⟨x, y, rfl, ix, iy, b6⟩
  have bw6 : Below w.heap.size w w6 := by
    have a := bw3.out
    have z := a.size
    have z4 := b4.size
    have z5 := b5.size
    simp at z4
    exact (((a.alloc (by omega) _).alloc (by simp; omega) _).trans (b4.mono (B' := w.heap.size) (by simp; omega))).trans ((b5.mono (B' := w.heap.size) (by omega)).trans (b6.mono (B' := w.heap.size) (by omega)))
  have Vq := ((HVq.out.below b4).below b5).below b6
  have Vr := ((HVr.out.below b4).below b5).below b6
  obtain ⟨bx, px, nx, cx, rfl, ix'⟩ := ix.any
  obtain ⟨by', py, ny, cy, rfl, iy'⟩ := iy.any
  have Vx := (Var.new (t := 25) ix').below (below1 _ (.cells #[.bool by', .slice py ny cy] 25))
  have Vy := Var.new1 (t := 25) (o := .cells #[.bool bx, .slice px nx cx] 25) iy'
  have b67 : Below w6.heap.size w6 ((w6.alloc (.cells #[.bool bx, .slice px nx cx] 25)).alloc (.cells #[.bool by', .slice py ny cy] 25)) := (below1 _ _).alloc (by simp) _
  have HVq' := hid (Vq.below b67); have HVr' := hid (Vr.below b67)
  have HVx := hid Vx; have HVy := hid Vy
  have bw7 := hid (bw6.trans (b67.mono (B' := w.heap.size) bw6.size))
  clear b4 b5 b6 i4 i5 ix iy ix' iy' Vq Vr Vx Vy HVq HVr bw3 bw6 b67
  go_wp2_with fail
  refine (Parse_bad _).mono ?_
  rintro e w8 ⟨z, rfl, iz, b8⟩
  obtain ⟨bz, pz, nz, cz, rfl, -⟩ := iz.any
  have b89 : ∀ o, Below w8.heap.size w8 (w8.alloc o) := fun o => below1 w8 o
  have Vq := hid (fun o => (HVq'.out.below b8).below (b89 o)); have Vr := hid (fun o => (HVr'.out.below b8).below (b89 o))
  have Vx := hid (fun o => (HVx.out.below b8).below (b89 o)); have Vy := hid (fun o => (HVy.out.below b8).below (b89 o))
  have bw9 := hid (fun o => (bw7.out.trans (b8.mono (B' := w.heap.size) bw7.out.size)).trans ((b89 o).mono (B' := w.heap.size) (Nat.le_trans bw7.out.size b8.size)))
  clear HVq' HVr' HVx HVy bw7 b8 b89 iz
  have q0 := (Vq.out (.cells #[.bool bz, .slice pz nz cz] 25)).1; have q1 := (Vq.out (.cells #[.bool bz, .slice pz nz cz] 25)).2.1
  go_wp2_with fail
  generalize hW : World.alloc w8 _ = W9
  have Vr9 := Vr.out (.cells #[.bool bz, .slice pz nz cz] 25)
  have Vx9 := Vx.out (.cells #[.bool bz, .slice pz nz cz] 25)
  have Vy9 := Vy.out (.cells #[.bool bz, .slice pz nz cz] 25)
  have Iq9 := (Vq.out (.cells #[.bool bz, .slice pz nz cz] 25)).2.2.2
  have bw10 := bw9.out (.cells #[.bool bz, .slice pz nz cz] 25)
  rw [hW] at Vr9 Vx9 Vy9 Iq9 bw10
  clear q0 q1 Vq Vr Vx Vy bw9 hW
  refine (print_m4 _ _ Iq9).mono ?_
  rintro e w10 ⟨rfl, b10⟩
  have Vr10 := Vr9.below b10; have Vx10 := Vx9.below b10; have Vy10 := Vy9.below b10
  have bw11 := bw10.trans (b10.mono (B' := w.heap.size) bw10.size)
  obtain ⟨d0, d1, -, Ir⟩ := Vr10
  clear Iq9 Vr9 Vx9 Vy9 b10 bw10
  have HVx := hid Vx10; have HVy := hid Vy10; have HIr := hid Ir; have Hbw := hid bw11
  clear Vx10 Vy10 Ir bw11
  go_wp2_with fail
  refine (print_1 _ _ HIr.out).mono ?_
  rintro e w11 ⟨rfl, b11⟩
  have Vx11 := HVx.out.below b11; have Vy11 := HVy.out.below b11
  have bw12 := Hbw.out.trans (b11.mono (B' := w.heap.size) Hbw.out.size)
  clear d0 d1 HIr HVx HVy Hbw b11
  obtain ⟨d0, d1, -, Ix⟩ := Vx11
  have HVy := hid Vy11; have HIx := hid Ix; have Hbw := hid bw12
  clear Vy11 Ix bw12
  go_wp2_with fail
  refine (print_m3 _ _ HIx.out).mono ?_
  rintro e w12 ⟨rfl, b12⟩
  have Vy12 := HVy.out.below b12
  have bw13 := Hbw.out.trans (b12.mono (B' := w.heap.size) Hbw.out.size)
  clear d0 d1 HIx HVy Hbw b12
  obtain ⟨d0, d1, -, Iy⟩ := Vy12
  have HIy := hid Iy; have Hbw := hid bw13
  clear Iy bw13
  go_wp2_with fail
  refine (print_1 _ _ HIy.out).mono ?_
  rintro e w13 ⟨rfl, b13⟩
  have bw14 := hid (Hbw.out.trans (b13.mono (B' := w.heap.size) Hbw.out.size))
  clear d0 d1 HIy Hbw b13
  go_wp2_with fail
  go_ret
  exact ⟨rfl, bw14.out⟩
end Go.Proofs.YtippcalhcnjghaaDoor
/- elenchuslaw01.WholeParses answers true. -/
namespace Go.Proofs.YtippcalhcnjghaaDoor
open Go.RowKit Big

theorem two_parse (s : ByteArray) (hs : s.size ≤ 1099511627776) : ∃ z c : Int, (∀ W, Calls Tryd.prog 33 #[.string s] W (RParse z c W)) ∧ (∀ W, Calls Tryd.prog 34 #[.string s] W (RParse z c W)) := by
  have hr := fun W => RParse_any s W hs
  cases hg : goodB s with
  | true =>
    have hl : s.size ≤ 4096 := by
      unfold goodB at hg
      simp only [Bool.and_eq_true, decide_eq_true_eq] at hg
      exact hg.1.1
    rw [hg] at hr
    exact ⟨_, _, fun W => Parse_yes s W hl hg, hr⟩
  | false =>
    rw [hg] at hr
    exact ⟨_, _, fun W => Parse_no s W hg hs, hr⟩

set_option maxRecDepth 100000 in
set_option maxHeartbeats 1600000 in
theorem lawParses_any (s : ByteArray) (w : World) (hs : s.size ≤ 9223372036854775807) : Calls Tryd.prog 6 #[.string s] w (RBool true w) := by
  have f0 := hid (fixed_any w)
  by_cases h1 : s.size ≤ 300 ∨ (4096 < s.size ∧ s.size ≤ 4100)
  · obtain ⟨z, c, hP, hR⟩ := two_parse s (by omega)
    have HP := hid hP; have HR := hid hR
    clear hP hR
    rcases h1 with h1 | ⟨h1, h2⟩
    all_goals
      go_enter Tryd.func6, Tryd.ntmps6
      go_wp2_with fail
      refine f0.out.mono ?_
      rintro e w1 ⟨rfl, b1⟩
      go_wp2_with fail
      refine (HP.out _).mono ?_
      rintro e w2 ⟨v2, rfl, i2, b2⟩
      obtain ⟨d2, p2, n2, c2, rfl, i2⟩ := i2.any
      go_wp2_with fail
      refine (HR.out _).mono ?_
      rintro e w3 ⟨v3, rfl, i3, b3⟩
      obtain ⟨d3, p3, n3, c3, rfl, i3⟩ := i3.any
      have V2 := ((Var.new (t := 25) i2).below b3).below (below1 _ (.cells #[.bool d3, .slice p3 n3 c3] 25))
      have V3 := Var.new (t := 25) i3
      have z1 := b1.size; have z2 := b2.size; have z3 := b3.size
      simp only [size_alloc] at z3
      have bw := hid (((b1.trans (b2.mono (B' := w.heap.size) (by omega))).trans ((below1 _ (.cells #[.bool d2, .slice p2 n2 c2] 25)).mono (B' := w.heap.size) (by omega))).trans ((b3.mono (B' := w.heap.size) (by rw [size_alloc]; omega)).trans ((below1 _ (.cells #[.bool d3, .slice p3 n3 c3] 25)).mono (B' := w.heap.size) (by omega))))
      obtain ⟨q0, q1, -, I2⟩ := V2
      obtain ⟨r0, r1, -, I3⟩ := V3
      have hsm := SameInt_same _ _ _ _ I2 I3
      have Hsm := hid hsm
      clear b1 b2 b3 i2 i3 I2 I3 hsm z1 z2 z3
      go_wp2_with fail
      refine Hsm.out.mono ?_
      rintro e w4 ⟨rfl, b4⟩
      go_wp2_with fail
      go_ret
      exact ⟨rfl, bw.out.trans (b4.mono (B' := w.heap.size) bw.out.size)⟩
  · by_cases h2 : s.size < 4090
    · have h3 : ¬ s.size ≤ 300 := by omega
      go_enter Tryd.func6, Tryd.ntmps6
      go_wp2_with fail
      refine f0.out.mono ?_
      rintro e w1 ⟨rfl, b1⟩
      have h4 : 300 < s.size := by omega
      go_wp2_with fail
      go_ret
      exact ⟨rfl, b1⟩
    · by_cases h3 : 4100 < s.size
      · go_enter Tryd.func6, Tryd.ntmps6
        go_wp2_with fail
        refine f0.out.mono ?_
        rintro e w1 ⟨rfl, b1⟩
        go_wp2_with fail
        go_ret
        exact ⟨rfl, b1⟩
      · have h4 : s.size ≤ 4096 := by omega
        have h5 : 4090 ≤ s.size := by omega
        clear h1
        go_enter Tryd.func6, Tryd.ntmps6
        go_wp2_with fail
        refine f0.out.mono ?_
        rintro e w1 ⟨rfl, b1⟩
        go_wp2_with fail
        go_ret
        exact ⟨rfl, b1⟩
end Go.Proofs.YtippcalhcnjghaaDoor
/- The package-level tables that the rows list, as start-up lays them; a world that holds them. -/
namespace Go.Proofs.YtippcalhcnjghaaDoor
open Go.ChangeShapes Go.WideShapes Go.ChangeAt Go.RowKit

theorem own : ownKnob Tryd.prog.godebug = none := by kernel_rfl
def tabPow : Array Value := #[.int .u64 1, .int .u64 10, .int .u64 100, .int .u64 1000, .int .u64 10000, .int .u64 100000, .int .u64 1000000, .int .u64 10000000, .int .u64 100000000, .int .u64 1000000000, .int .u64 10000000000, .int .u64 100000000000, .int .u64 1000000000000, .int .u64 10000000000000, .int .u64 100000000000000, .int .u64 1000000000000000, .int .u64 10000000000000000, .int .u64 100000000000000000, .int .u64 1000000000000000000, .int .u64 10000000000000000000]
def tab32 : Array Value := #[.int .u8 0, .int .u8 1, .int .u8 28, .int .u8 2, .int .u8 29, .int .u8 14, .int .u8 24, .int .u8 3, .int .u8 30, .int .u8 22, .int .u8 20, .int .u8 15, .int .u8 25, .int .u8 17, .int .u8 4, .int .u8 8, .int .u8 31, .int .u8 27, .int .u8 13, .int .u8 23, .int .u8 21, .int .u8 19, .int .u8 16, .int .u8 7, .int .u8 26, .int .u8 12, .int .u8 18, .int .u8 6, .int .u8 11, .int .u8 5, .int .u8 10, .int .u8 9]
def tab64 : Array Value := #[.int .u8 0, .int .u8 1, .int .u8 56, .int .u8 2, .int .u8 57, .int .u8 49, .int .u8 28, .int .u8 3, .int .u8 61, .int .u8 58, .int .u8 42, .int .u8 50, .int .u8 38, .int .u8 29, .int .u8 17, .int .u8 4, .int .u8 62, .int .u8 47, .int .u8 59, .int .u8 36, .int .u8 45, .int .u8 43, .int .u8 51, .int .u8 22, .int .u8 53, .int .u8 39, .int .u8 33, .int .u8 30, .int .u8 24, .int .u8 18, .int .u8 12, .int .u8 5, .int .u8 63, .int .u8 55, .int .u8 48, .int .u8 27, .int .u8 60, .int .u8 41, .int .u8 37, .int .u8 16, .int .u8 46, .int .u8 35, .int .u8 44, .int .u8 21, .int .u8 52, .int .u8 32, .int .u8 23, .int .u8 11, .int .u8 54, .int .u8 26, .int .u8 40, .int .u8 15, .int .u8 34, .int .u8 20, .int .u8 31, .int .u8 10, .int .u8 25, .int .u8 14, .int .u8 19, .int .u8 9, .int .u8 13, .int .u8 8, .int .u8 7, .int .u8 6]
/-- the object that block k holds behind start-up -/
def laidObj (k : Nat) (o : Obj) : Obj :=
  match o with
  | .cells c t frozen => if k = 0 then .cells tabPow t frozen else if k = 2 then .cells tab32 t frozen else if k = 3 then .cells tab64 t frozen else .cells c t frozen
  | o => o
noncomputable def laidWorld (os : Os) : World :=
  { World.holding Tryd.prog os ⟨#[], #[], []⟩ with heap := (((World.holding Tryd.prog os ⟨#[], #[], []⟩).heap.modify 0 (laidObj 0)).modify 2 (laidObj 2)).modify 3 (laidObj 3) }
end Go.Proofs.YtippcalhcnjghaaDoor
