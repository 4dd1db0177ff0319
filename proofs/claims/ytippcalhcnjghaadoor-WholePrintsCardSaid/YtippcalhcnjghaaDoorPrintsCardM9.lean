/- Texts put together: LawPrints, OpenNum, Laid. -/
import Derived.Test.YtippcalhcnjghaaDoorPrintsCardM8
import Derived.Lib.SmallJoins
import Derived.ChangeSlices
import Derived.OpenShut
import Derived.Carry
import Derived.Test.YtippcalhcnjghaaDoorCards
import Derived.Test.YtippcalhcnjghaaDoorTie
import Derived.WalkKit
import Derived.ProofKit
import Derived.Deep.DeepHandedRow
import Derived.Lib.LaidTab
/- elenchuslaw01.WholePrints answers true. -/
namespace Go.Proofs.YtippcalhcnjghaaDoor
open Go.RowKit Big
open Go.Lib (decDigits decDigits_one toList_data)

set_option maxRecDepth 100000 in
set_option maxHeartbeats 800000 in
theorem few1_any (b : Nat) (n0 : Bool) (p0 : Option Addr) (k0 c0 cap : Nat) (w : World)
    (e0 : w.cell? ⟨b, 0, none⟩ = some (.bool n0)) (e1 : w.cell? ⟨b, 1, none⟩ = some (.slice p0 k0 c0)) (h0 : k0 ≤ 9223372036854775807) :
    Calls Tryd.prog 10 #[.slice (some ⟨b, 0, none⟩) 1 cap] w (RBool (decide (k0 ≤ 20)) w) := by
  have hb := World.block_lt_of_cell? w _ e0
  obtain ⟨r, hr⟩ : ∃ r, r = decide (k0 ≤ 20) := ⟨_, rfl⟩
  rw [← hr]
  rcases (by omega : k0 ≤ 20 ∨ 20 < k0) with a0 | a0
  · have hd : Hid (r = true) := by unfold Hid; rw [hr]; simp; omega
    clear hr
    go_enter Tryd.func10, Tryd.ntmps10
    go_wp2_with fail
    refine wp_loop_rounds 2 ?_
    rw [rounds_succ]
    go_wp2
    rw [rounds_succ]
    go_wp2
    go_ret
    exact ⟨by rw [hd.out]; rfl, below1 _ _⟩
  · have hd : Hid (r = false) := by unfold Hid; rw [hr]; simp; omega
    clear hr
    go_enter Tryd.func10, Tryd.ntmps10
    go_wp2_with fail
    refine wp_loop_rounds 2 ?_
    rw [rounds_succ]
    go_wp2
    go_ret
    exact ⟨by rw [hd.out]; rfl, below1 _ _⟩

theorem all_decDigits (n : Nat) : (decDigits n).all digB = true := List.all_eq_true.2 fun c hc => (digB_iff c).2 (decDigits_digits n c hc)
theorem szB_decDigits (n : Nat) : szB ⟨(decDigits n).toArray⟩ = true := by
  have hne := decDigits_ne n
  have hsz : (⟨(decDigits n).toArray⟩ : ByteArray).size = (decDigits n).length := rfl
  have hl : 0 < (decDigits n).length := List.length_pos_iff.2 hne
  unfold szB
  have ha := all_decDigits n
  simp only [hsz, ha, Bool.and_true, hl, decide_true, Bool.true_and]
  by_cases h0 : n = 0
  · subst h0
    have : decDigits 0 = [48] := decDigits_one (by decide)
    rw [this]; rfl
  · obtain ⟨c, l, e, hc⟩ := decDigits_head n (by omega)
    rw [e]
    simp [hc]
theorem text_good (z : Int) (hl : (decI z).length ≤ 4096) : goodB ⟨(decI z).toArray⟩ = true ∧ sg (below ⟨(decI z).toArray⟩) (numL (rest ⟨(decI z).toArray⟩).data.toList) = z := by
  have hs : (⟨(decI z).toArray⟩ : ByteArray).size = (decI z).length := rfl
  have hsz := szB_decDigits z.natAbs
  have hnum := numL_decDigits z.natAbs
  by_cases hz : z < 0
  · have e : decI z = 45 :: decDigits z.natAbs := by unfold decI; rw [if_pos hz]; rfl
    rw [hs.symm] at hl
    rw [e] at hl ⊢
    have hb : below ⟨(45 :: decDigits z.natAbs).toArray⟩ = true := by simp [below, Lib.hasPrefix]
    have hr : rest ⟨(45 :: decDigits z.natAbs).toArray⟩ = ⟨(decDigits z.natAbs).toArray⟩ := by simp [rest, Lib.trimPrefix, Lib.hasPrefix]
    unfold goodB
    rw [hb, hr, hsz]
    obtain ⟨c, l, e2, hc⟩ := decDigits_head z.natAbs (by omega)
    have h48 : (decDigits z.natAbs).toArray.toList ≠ [48] := by
      rw [e2]; intro h
      simp at h
      exact hc (by rw [h.1]; rfl)
    refine ⟨by simp only [decide_eq_true hl, Bool.true_and]; simp; simpa using h48, ?_⟩
    have : numL (⟨(decDigits z.natAbs).toArray⟩ : ByteArray).data.toList = z.natAbs := hnum
    rw [this]
    unfold sg; simp; omega
  · have e : decI z = decDigits z.natAbs := by unfold decI; rw [if_neg hz]; rfl
    rw [hs.symm] at hl
    rw [e] at hl ⊢
    obtain ⟨c, l, e2⟩ : ∃ c l, decDigits z.natAbs = c :: l := by
      cases h : decDigits z.natAbs with
      | nil => exact absurd h (decDigits_ne _)
      | cons c l => exact ⟨c, l, rfl⟩
    have hc : c ≠ 45 := by
      have := decDigits_digits z.natAbs c (by rw [e2]; simp)
      intro h; subst h; simp at this
    have hb : below ⟨(decDigits z.natAbs).toArray⟩ = false := by rw [e2]; simp [below, Lib.hasPrefix, List.isPrefixOf, Ne.symm hc]
    have hr : rest ⟨(decDigits z.natAbs).toArray⟩ = ⟨(decDigits z.natAbs).toArray⟩ := by rw [e2]; simp [rest, Lib.trimPrefix, Lib.hasPrefix, List.isPrefixOf, Ne.symm hc]
    unfold goodB
    rw [hb, hr, hsz]
    refine ⟨by simp only [decide_eq_true hl]; rfl, ?_⟩
    have : numL (⟨(decDigits z.natAbs).toArray⟩ : ByteArray).data.toList = z.natAbs := hnum
    rw [this]
    unfold sg; simp; omega
theorem sz_T (n k : Nat) (h : sz W n ≤ k) : sz T n ≤ 3 * k := by
  refine sz_le_of_lt T2 (Nat.lt_of_lt_of_le (lt_pow_sz W2 n) (Nat.le_trans (Nat.pow_le_pow_right (by decide) h) ?_))
  rw [Nat.pow_mul]
  exact Nat.pow_le_pow_left (by decide) _

set_option maxRecDepth 100000 in
set_option maxHeartbeats 3200000 in
theorem lawPrints_any (neg : Bool) (s : Value) (l : List Nat) (w : World) (ha : At w .u64 s l) (hs : Small W l) (htab : Tab w) : Calls Tryd.prog 7 #[.agg #[.bool neg, s]] w (RBool true w) := by
  have H := hid ha
  obtain ⟨p, c, rfl, a1, a2, -⟩ := ha
  unfold maxLen at a2
  have hf := fun o => fixed_any (w.alloc o)
  have Hf := hid hf
  have Htab := hid htab
  clear hf htab
  go_enter Tryd.func7, Tryd.ntmps7
  go_wp2_with fail
  refine (Hf.out _).mono ?_
  rintro e u1 ⟨rfl, g1⟩
  have tw := two_cells (heap_alloc_new w (.cells #[.bool neg, .slice p l.length c] 25))
  have hlt : w.heap.size < (w.alloc (.cells #[.bool neg, .slice p l.length c] 25)).heap.size := by simp
  have t0 := (g1.cell (p := ⟨w.heap.size, 0, none⟩) hlt).trans tw.1
  have t1 := (g1.cell (p := ⟨w.heap.size, 1, none⟩) hlt).trans tw.2.1
  have z1 : w.heap.size < u1.heap.size := Nat.lt_of_lt_of_le hlt g1.size
  have bw := hid ((below1 w (.cells #[.bool neg, .slice p l.length c] 25)).trans (g1.mono (B' := w.heap.size) (by omega)))
  have f := two_cells (heap_alloc_new u1 (.cells #[.bool neg, .slice p l.length c] 25))
  have hfew := few1_any u1.heap.size neg p l.length c 1 _ f.1 f.2.1 (by omega)
  have Hfew := hid hfew
  clear tw hlt g1 f hfew Hf
  by_cases h20 : l.length ≤ 20
  · rw [decide_eq_true h20] at Hfew
    go_wp2_with fail
    refine Hfew.out.mono ?_
    rintro e u2 ⟨rfl, d2⟩
    have b12 : Below u1.heap.size u1 u2 := (below1 _ _).trans (d2.mono (B' := u1.heap.size) (by simp))
    have bw2 := hid (bw.out.trans (b12.mono (B' := w.heap.size) (by omega)))
    have t0 := (b12.cell (p := ⟨w.heap.size, 0, none⟩) z1).trans t0
    have t1 := (b12.cell (p := ⟨w.heap.size, 1, none⟩) z1).trans t1
    have z2 : w.heap.size < u2.heap.size := Nat.lt_of_lt_of_le z1 b12.size
    clear d2 b12 Hfew bw z1
    by_cases h6 : l.length ≤ 6
    · obtain ⟨z, hz⟩ : ∃ z, z = sg neg (val W l) := ⟨_, rfl⟩
      have lz : sz W z.natAbs ≤ 6 := by rw [hz, sg_natAbs]; exact Nat.le_trans (sz_val W2 hs) h6
      have HA : ∀ W', Below u2.heap.size u2 W' → At W' .u64 (.slice p l.length c) l := fun W' hb => H.out.below (bw2.out.trans (hb.mono (B' := w.heap.size) (by omega)))
      have RV : ∀ W', Below u2.heap.size u2 W' → RawAt W' (.agg #[.bool neg, .slice p l.length c]) z := fun W' hb => ⟨neg, _, l, rfl, HA W' hb, hs, by omega, hz⟩
      have hP := fun W' hb => Print_any _ z W' (RV W' hb) (Nat.le_trans (sz_T _ 6 lz) (by decide)) (Htab.out.below (bw2.out.trans (hb.mono (B' := w.heap.size) (by omega))))
      have hR := fun W' hb => RPrint_any _ z W' (RV W' hb) (by omega)
      have hWh := fun W' hb => Whole_any neg _ l W' (HA W' hb) hs (by omega)
      rw [← hz] at hWh
      have hlen : (decI z).length ≤ 4096 := by
        have := digits_sz z.natAbs 6 (by decide) lz
        unfold decI
        rw [List.length_append]
        split <;> simp <;> omega
      have tg := text_good z hlen
      unfold RStr at hP hR
      have hSl : (⟨(decI z).toArray⟩ : ByteArray).size ≤ 4096 := hlen
      generalize (⟨(decI z).toArray⟩ : ByteArray) = S at *
      have hPa := fun W' => Parse_yes S W' hSl tg.1
      rw [tg.2] at hPa
      have HP := hid hP; have HR := hid hR; have HWh := hid hWh; have HPa := hid hPa
      clear hP hR hWh hPa tg hlen hz HA RV H Htab hs lz
      go_wp2_with fail
      refine (HP.out _ (Below.refl _ _)).mono ?_
      rintro e u3 ⟨rfl, b3⟩
      go_wp2_with fail
      refine (HPa.out _).mono ?_
      rintro e u4 ⟨v4, rfl, i4, b4⟩
      have i4s := i4.any
      obtain ⟨d4, p4, n4, c4, rfl, i4⟩ := i4s
      have b24 : Below u2.heap.size u2 u4 := b3.trans (b4.mono (B' := u2.heap.size) b3.size)
      go_upto_region 7 with fail
      generalize hW : World.alloc u4 _ = W5
      have B5 : Below u2.heap.size u2 W5 := by rw [← hW]; exact b24.trans ((below1 _ _).mono (B' := u2.heap.size) b24.size)
      have V5 : Var W5 u4.heap.size d4 p4 n4 c4 z := by rw [← hW]; exact Var.new i4
      obtain ⟨g5, hg5⟩ : ∃ g, g = u4.heap.size := ⟨_, rfl⟩
      rw [← hg5] at V5 ⊢
      have HB5 := hid B5
      have HT : Hid (w.heap.size < u2.heap.size ∧ u2.cell? ⟨w.heap.size, 0, none⟩ = some (.bool neg) ∧ u2.cell? ⟨w.heap.size, 1, none⟩ = some (.slice p l.length c)) := ⟨z2, t0, t1⟩
      have HV := hid V5
      have HS : Hid (∀ w', Below W5.heap.size W5 w' → w'.cell? ⟨w.heap.size, 0, none⟩ = some (.bool neg) ∧ w'.cell? ⟨w.heap.size, 1, none⟩ = some (.slice p l.length c) ∧ w'.cell? ⟨g5, 0, none⟩ = some (.bool d4) ∧ w'.cell? ⟨g5, 1, none⟩ = some (.slice p4 n4 c4) ∧ Below W5.heap.size W5 w') := by
        intro w' hb
        have hu := Below.go hb HB5.out
        have hv := HV.out.below hb
        exact ⟨(hu.cell (p := ⟨w.heap.size, 0, none⟩) HT.out.1).trans HT.out.2.1, (hu.cell (p := ⟨w.heap.size, 1, none⟩) HT.out.1).trans HT.out.2.2, hv.1, hv.2.1, hb⟩
      have HUV : Hid (∀ w', Below W5.heap.size W5 w' → Below u2.heap.size u2 w' ∧ IntAt w' (.agg #[.bool d4, .slice p4 n4 c4]) z) := fun w' hb => ⟨Below.go hb HB5.out, (HV.out.below hb).2.2.2⟩
      clear hW hg5 B5 V5 i4 b3 b4 b24 t0 t1 z2
      go_region_held3 (fun w' => w'.cell? ⟨w.heap.size, 0, none⟩ = some (.bool neg) ∧ w'.cell? ⟨w.heap.size, 1, none⟩ = some (.slice p l.length c) ∧ w'.cell? ⟨g5, 0, none⟩ = some (.bool d4) ∧ w'.cell? ⟨g5, 1, none⟩ = some (.slice p4 n4 c4) ∧ Below W5.heap.size W5 w')
        (first | exact HS.out _ (Below.drew (Below.refl _ _)) | (refine HS.out _ (Below.go hb ?_); go_split_ands; assumption))
        (first
          | (go_at_call 36; refine (HR.out _ (HUV.out _ (by go_split_ands; assumption)).1).mono ?_; rintro e wa ⟨rfl, hb⟩)
          | (go_at_call 24; refine (HWh.out _ (HUV.out _ (by go_split_ands; assumption)).1).mono ?_; rintro e wa ⟨v6, rfl, i6, hb⟩)
          | (go_at_call 12; refine (SameInt_same _ _ z _ (HUV.out _ (by go_split_ands; assumption)).2 i6).mono ?_; rintro e wb ⟨rfl, hb⟩))
      rename_i hHeld
      go_split_ands
      have HBf := hid (show Below W5.heap.size W5 wb by assumption)
      go_wp2_with fail
      go_ret
      exact ⟨rfl, bw2.out.trans ((Below.go HBf.out HB5.out).mono bw2.out.size)⟩
    · go_wp2_with fail
      go_ret
      exact ⟨rfl, bw2.out⟩
  · rw [decide_eq_false h20] at Hfew
    go_wp2_with fail
    refine Hfew.out.mono ?_
    rintro e u2 ⟨rfl, d2⟩
    have b12 : Below u1.heap.size u1 u2 := (below1 _ _).trans (d2.mono (B' := u1.heap.size) (by simp))
    have bw2 := hid (bw.out.trans (b12.mono (B' := w.heap.size) (by omega)))
    clear d2 b12 Hfew bw z1
    go_wp2_with fail
    go_ret
    exact ⟨rfl, bw2.out⟩
end Go.Proofs.YtippcalhcnjghaaDoor
/- A number that comes in as data: a bool and a slice of words; how it reads. -/
namespace Go.Proofs.YtippcalhcnjghaaDoor
open Go.ChangeShapes Go.WideShapes Go.ChangeAt Go.RowKit Go.Deep Go.Joins Big

theorem laidOut : laidOutB Tryd.prog = true := by kernel_rfl
theorem fieldsInt : ∃ f0 f1 : Field, Tryd.prog.underlying 25 = some (.struct #[f0, f1]) ∧ oneCellFields Tryd.prog #[f0, f1] = true ∧ f0.type = 4 ∧ f1.type = 23 := ⟨_, _, Tryd.underlying25, by kernel_rfl, rfl, rfl⟩
theorem cellsInt : Tryd.prog.cellsOf 25 = 2 := by kernel_rfl
theorem cellsU64 : Tryd.prog.cellsOf 59 = 1 := by kernel_rfl

section
variable {H : Type} {enc : TypeId × Value → H} {w : World} {base : Nat} {spare : Nat → Bool} {held : Bool}
theorem wf_u64 {n : Int} (h : (Lit.int .u64 n).wf = true) : 0 ≤ n ∧ n < (W : Int) := by
  have h' : (decide (IntKind.u64.min ≤ n) && decide (n ≤ IntKind.u64.max)) = true := h
  have e1 : IntKind.u64.min = 0 := by decide
  have e2 : IntKind.u64.max = 18446744073709551615 := by decide
  rw [e1, e2] at h'
  simp only [Bool.and_eq_true, decide_eq_true_eq] at h'
  unfold W
  omega
/-- a slice of words that comes in -/
theorem open_nat {fuel : Nat} {v : Value} {y : DataW H × List MemPlace} (h : DataW.trod enc Tryd.prog w base spare held fuel 23 [v] = some y) : ∃ l, At w .u64 v l ∧ Small W l := by
  rcases open_ints Tryd.underlying23 Tryd.underlying59 cellsU64 h with ⟨hv, -⟩ | ⟨a, len, cap, zs, hv, hb, hl, hm, hz, -, hc, hwf⟩
  · obtain rfl : v = .slice none 0 0 := by simpa using hv
    exact ⟨[], At.nil w .u64, fun n hn => by cases hn⟩
  · obtain rfl : v = .slice (some a) len cap := by simpa using hv
    have hlz : len ≤ zs.length := by rw [hz]; split <;> omega
    refine ⟨(zs.take len).map Int.toNat, ?_, ?_⟩
    · have e : ((zs.take len).map Int.toNat).length = len := by simp [Nat.min_eq_left hlz]
      refine ⟨some a, cap, by rw [e], by rw [e]; exact hl, hm, nofun, fun h0 => ?_⟩
      rw [e] at h0
      have hs := hc 0 (by omega)
      obtain ⟨b, off, spot⟩ := a
      cases spot with
      | some x =>
        exfalso
        revert hs
        unfold World.cell? Addr.add
        split <;> simp
      | none =>
        refine ⟨b, off, rfl, ?_, fun i hi => ?_⟩
        · exact World.block_lt_of_cell? w _ hs
        · rw [e] at hi
          have hci := hc i (by omega)
          have hw := wf_u64 (hwf _ (List.getElem_mem (n := i) (l := zs) (by omega)))
          rw [add_plain] at hci
          rw [hci]
          have hg : zs.getD i 0 = zs[i]'(by omega) := by simp [List.getD, show i < zs.length by omega]
          rw [hg]
          simp only [List.getElem_map, List.getElem_take]
          congr 2
          omega
    · intro n hn
      obtain ⟨x, hx, rfl⟩ := List.mem_map.1 hn
      have hw := wf_u64 (hwf x (List.mem_of_mem_take hx))
      omega
set_option maxRecDepth 100000 in
/-- a number that comes in -/
theorem open_num {r : Reach} {b0 : Nat} {v : Value} {d : DataW H} {p : List MemPlace} (hv : Value.okWide Tryd.prog w r b0 25 v) (h : DataW.Trod enc Tryd.prog w base spare held 25 v d p) :
    ∃ neg s l, v = .agg #[.bool neg, s] ∧ At w .u64 s l ∧ Small W l := by
  obtain ⟨f0, f1, hs, hone, e0, e1⟩ := fieldsInt
  obtain ⟨v0, v1, y0, y1, n, rfl, -, -, h0, h1⟩ := open_agg2 hs hone cellsInt hv h
  rw [e0] at h0
  rw [e1] at h1
  obtain ⟨b, hb, -⟩ := DataW.trod_bool Tryd.underlying4 h0
  obtain ⟨l, ha, hl⟩ := open_nat h1
  obtain rfl : v0 = .bool b := by simpa using hb
  exact ⟨b, v1, l, rfl, ha, hl⟩
end
end Go.Proofs.YtippcalhcnjghaaDoor
/- The package-level tables that the rows list, as start-up lays them; a world that holds them. -/
namespace Go.Proofs.YtippcalhcnjghaaDoor
open Go.ChangeShapes Go.WideShapes Go.ChangeAt Go.RowKit

theorem own : ownKnob Tryd.prog.godebug = none := by kernel_rfl
def tabPow : Array Value := #[.int .u64 1, .int .u64 10, .int .u64 100, .int .u64 1000, .int .u64 10000, .int .u64 100000, .int .u64 1000000, .int .u64 10000000, .int .u64 100000000, .int .u64 1000000000, .int .u64 10000000000, .int .u64 100000000000, .int .u64 1000000000000, .int .u64 10000000000000, .int .u64 100000000000000, .int .u64 1000000000000000, .int .u64 10000000000000000, .int .u64 100000000000000000, .int .u64 1000000000000000000, .int .u64 10000000000000000000]
def tab32 : Array Value := #[.int .u8 0, .int .u8 1, .int .u8 28, .int .u8 2, .int .u8 29, .int .u8 14, .int .u8 24, .int .u8 3, .int .u8 30, .int .u8 22, .int .u8 20, .int .u8 15, .int .u8 25, .int .u8 17, .int .u8 4, .int .u8 8, .int .u8 31, .int .u8 27, .int .u8 13, .int .u8 23, .int .u8 21, .int .u8 19, .int .u8 16, .int .u8 7, .int .u8 26, .int .u8 12, .int .u8 18, .int .u8 6, .int .u8 11, .int .u8 5, .int .u8 10, .int .u8 9]
def tab64 : Array Value := #[.int .u8 0, .int .u8 1, .int .u8 56, .int .u8 2, .int .u8 57, .int .u8 49, .int .u8 28, .int .u8 3, .int .u8 61, .int .u8 58, .int .u8 42, .int .u8 50, .int .u8 38, .int .u8 29, .int .u8 17, .int .u8 4, .int .u8 62, .int .u8 47, .int .u8 59, .int .u8 36, .int .u8 45, .int .u8 43, .int .u8 51, .int .u8 22, .int .u8 53, .int .u8 39, .int .u8 33, .int .u8 30, .int .u8 24, .int .u8 18, .int .u8 12, .int .u8 5, .int .u8 63, .int .u8 55, .int .u8 48, .int .u8 27, .int .u8 60, .int .u8 41, .int .u8 37, .int .u8 16, .int .u8 46, .int .u8 35, .int .u8 44, .int .u8 21, .int .u8 52, .int .u8 32, .int .u8 23, .int .u8 11, .int .u8 54, .int .u8 26, .int .u8 40, .int .u8 15, .int .u8 34, .int .u8 20, .int .u8 31, .int .u8 10, .int .u8 25, .int .u8 14, .int .u8 19, .int .u8 9, .int .u8 13, .int .u8 8, .int .u8 7, .int .u8 6]
/-- the object that block k holds behind start-up -/
def laidObj (k : Nat) (o : Obj) : Obj :=
  match o with
  | .cells c t frozen => if k = 0 then .cells tabPow t frozen else if k = 2 then .cells tab32 t frozen else if k = 3 then .cells tab64 t frozen else .cells c t frozen
  | o => o
noncomputable def laidWorld (os : Os) : World :=
  { World.holding Tryd.prog os ⟨#[], #[], []⟩ with heap := (((World.holding Tryd.prog os ⟨#[], #[], []⟩).heap.modify 0 (laidObj 0)).modify 2 (laidObj 2)).modify 3 (laidObj 3) }
end Go.Proofs.YtippcalhcnjghaaDoor
