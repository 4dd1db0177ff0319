/- Texts put together: LawLaws, LawProducts, OpenNum, Laid. -/
import Derived.Test.YtlicmnlllappnaaDoorProductsCardM11
import Derived.Deep.DeepCutAuto
import Derived.Lib.SmallJoins
import Derived.ChangeSlices
import Derived.OpenShut
import Derived.Carry
import Derived.Test.YtlicmnlllappnaaDoorCards
import Derived.Test.YtlicmnlllappnaaDoorTie
import Derived.WalkKit
import Derived.ProofKit
import Derived.Deep.DeepHandedRow
import Derived.Lib.LaidTab
/- elenchuslaw01.WholeLaws answers true. -/
namespace Go.Proofs.YtlicmnlllappnaaDoor
open Go.RowKit Big

/-- the cells of three variables that a call has laid for its arguments -/
structure Three (w : World) (g : Nat) (a b c d e f : Value) : Prop where
  c00 : w.cell? ⟨g, 0, none⟩ = some a
  c01 : w.cell? ⟨g, 1, none⟩ = some b
  c10 : w.cell? ⟨g + 1, 0, none⟩ = some c
  c11 : w.cell? ⟨g + 1, 1, none⟩ = some d
  c20 : w.cell? ⟨g + 1 + 1, 0, none⟩ = some e
  c21 : w.cell? ⟨g + 1 + 1, 1, none⟩ = some f
  lt : g + 3 ≤ w.heap.size
theorem Three.below {w w' : World} {g : Nat} {a b c d e f : Value} (h : Three w g a b c d e f) (hb : Below w.heap.size w w') : Three w' g a b c d e f :=
  ⟨(hb.cell (p := ⟨g, 0, none⟩) (by have := h.lt; show g < _; omega)).trans h.c00, (hb.cell (p := ⟨g, 1, none⟩) (by have := h.lt; show g < _; omega)).trans h.c01,
   (hb.cell (p := ⟨g + 1, 0, none⟩) (by have := h.lt; show g + 1 < _; omega)).trans h.c10, (hb.cell (p := ⟨g + 1, 1, none⟩) (by have := h.lt; show g + 1 < _; omega)).trans h.c11,
   (hb.cell (p := ⟨g + 1 + 1, 0, none⟩) (by have := h.lt; show g + 1 + 1 < _; omega)).trans h.c20, (hb.cell (p := ⟨g + 1 + 1, 1, none⟩) (by have := h.lt; show g + 1 + 1 < _; omega)).trans h.c21, Nat.le_trans h.lt hb.size⟩
theorem Three.new (w : World) (a b c d e f : Value) (t : TypeId) : Three (((w.alloc (.cells #[a, b] t)).alloc (.cells #[c, d] t)).alloc (.cells #[e, f] t)) w.heap.size a b c d e f := by
  have h2 := (Two.new w a b c d t).below (below1 _ (.cells #[e, f] t))
  have h := two_cells (heap_alloc_new ((w.alloc (.cells #[a, b] t)).alloc (.cells #[c, d] t)) (.cells #[e, f] t))
  rw [size_alloc, size_alloc] at h
  exact ⟨h2.c00, h2.c01, h2.c10, h2.c11, h.1, h.2.1, by simp⟩
structure One (w : World) (g : Nat) (a b : Value) : Prop where
  c0 : w.cell? ⟨g, 0, none⟩ = some a
  c1 : w.cell? ⟨g, 1, none⟩ = some b
  lt : g < w.heap.size
theorem One.below {w w' : World} {g : Nat} {a b : Value} (h : One w g a b) (hb : Below w.heap.size w w') : One w' g a b :=
  ⟨(hb.cell (p := ⟨g, 0, none⟩) h.lt).trans h.c0, (hb.cell (p := ⟨g, 1, none⟩) h.lt).trans h.c1, Nat.lt_of_lt_of_le h.lt hb.size⟩
theorem One.new (w : World) (a b : Value) (t : TypeId) : One (w.alloc (.cells #[a, b] t)) w.heap.size a b := by
  have h := two_cells (heap_alloc_new w (.cells #[a, b] t))
  exact ⟨h.1, h.2.1, by simp⟩
/-- a told number's parts -/
def Parts (w : World) (z : Int) (d : Bool) (p : Option Addr) (n c : Nat) : Prop := IntAt w (.agg #[.bool d, .slice p n c]) z
theorem IntAt.parts {w : World} {v : Value} {z : Int} (h : IntAt w v z) : ∃ d p n c, v = .agg #[.bool d, .slice p n c] ∧ Parts w z d p n c := by
  obtain ⟨p, n, c, rfl, hi⟩ := h.shape
  exact ⟨_, p, n, c, rfl, hi⟩
theorem Parts.below {w w' : World} {z : Int} {d : Bool} {p : Option Addr} {n c : Nat} (h : Parts w z d p n c) (hb : Below w.heap.size w w') : Parts w' z d p n c := IntAt.below h hb
theorem Below.two {u w : World} (h : Below u.heap.size u w) (o o' : Obj) : Below u.heap.size u ((w.alloc o).alloc o') := (h.alloc h.size o).alloc (by have := h.size; simp; omega) o'
theorem six_cells {w : World} {g : Nat} {a b c d e f : Value} {t : TypeId} (h : w.heap[g]? = some (.cells #[a, b, c, d, e, f] t (0, 0))) :
    w.cell? ⟨g, 0, none⟩ = some a ∧ w.cell? ⟨g, 1, none⟩ = some b ∧ w.cell? ⟨g, 2, none⟩ = some c ∧ w.cell? ⟨g, 3, none⟩ = some d ∧ w.cell? ⟨g, 4, none⟩ = some e ∧ w.cell? ⟨g, 5, none⟩ = some f :=
  ⟨by rw [cell_of_row w g 0 _ t (0, 0) h]; rfl, by rw [cell_of_row w g 1 _ t (0, 0) h]; rfl, by rw [cell_of_row w g 2 _ t (0, 0) h]; rfl, by rw [cell_of_row w g 3 _ t (0, 0) h]; rfl, by rw [cell_of_row w g 4 _ t (0, 0) h]; rfl, by rw [cell_of_row w g 5 _ t (0, 0) h]; rfl⟩
theorem Cmp_same (v0 v1 : Value) (z : Int) (w : World) (h0 : RawAt w v0 z) (h1 : RawAt w v1 z) : Calls Tryd.prog 17 #[v0, v1] w (RNum .i64 0 w) := by
  have := Cmp_any v0 v1 z z w h0 h1
  rwa [ord_eq] at this

theorem sz_mul_int (a b : Int) : sz W (a * b).natAbs ≤ sz W a.natAbs + sz W b.natAbs := by rw [Int.natAbs_mul]; exact sz_mul W2 _ _
theorem sz_add_int {a b : Int} {k : Nat} (ha : sz W a.natAbs ≤ k) (hb : sz W b.natAbs ≤ k) : sz W (a + b).natAbs ≤ k + 1 := Nat.le_trans (sz_mono W2 (Int.natAbs_add_le a b)) (sz_add W2 ha hb)

set_option maxRecDepth 100000 in
set_option maxHeartbeats 8000000 in
theorem lawLaws_any (n0 n1 n2 : Bool) (s0 s1 s2 : Value) (l0 l1 l2 : List Nat) (w : World) (h0 : At w .u64 s0 l0) (h1 : At w .u64 s1 l1) (h2 : At w .u64 s2 l2) (w0 : Small W l0) (w1 : Small W l1) (w2 : Small W l2) :
    Calls Tryd.prog 8 #[.agg #[.bool n0, s0], .agg #[.bool n1, s1], .agg #[.bool n2, s2]] w (RBool true w) := by
  have H0 := hid h0; have H1 := hid h1; have H2 := hid h2
  obtain ⟨p0, c0, rfl, a1, a2, -⟩ := h0
  obtain ⟨p1, c1, rfl, b1, b2, -⟩ := h1
  obtain ⟨p2, c2, rfl, d1, d2, -⟩ := h2
  unfold maxLen at a2 b2 d2
  have hf := fun o o' o'' => fixed_any (((w.alloc o).alloc o').alloc o'')
  have Hf := hid hf
  clear hf
  go_enter Tryd.func8, Tryd.ntmps8
  go_wp2_with fail
  refine (Hf.out _ _ _).mono ?_
  rintro e u1 ⟨rfl, g1⟩
  have tw := (Three.new w (.bool n0) (.slice p0 l0.length c0) (.bool n1) (.slice p1 l1.length c1) (.bool n2) (.slice p2 l2.length c2) 25).below g1
  have bw := hid (((((below1 _ _).alloc (by simp) _).alloc (by simp; omega) _) : Below w.heap.size w (((w.alloc (.cells #[.bool n0, .slice p0 l0.length c0] 25)).alloc (.cells #[.bool n1, .slice p1 l1.length c1] 25)).alloc (.cells #[.bool n2, .slice p2 l2.length c2] 25))).trans (g1.mono (B' := w.heap.size) (by simp; omega)))
  have HT := hid tw
  have t00 := tw.c00; have t01 := tw.c01; have t10 := tw.c10; have t11 := tw.c11; have t20 := tw.c20; have t21 := tw.c21; have tz := tw.lt
  obtain ⟨f0, f1, f2, f3, f4, f5⟩ := six_cells (heap_alloc_new u1 (.cells #[.bool n0, .slice p0 l0.length c0, .bool n1, .slice p1 l1.length c1, .bool n2, .slice p2 l2.length c2] 25))
  have hfew := few3_any u1.heap.size n0 n1 n2 p0 p1 p2 l0.length c0 l1.length c1 l2.length c2 3 _ f0 f1 f2 f3 f4 f5 (by omega) (by omega) (by omega)
  have Hfew := hid hfew
  clear hfew f0 f1 f2 f3 f4 f5 g1 tw
  by_cases hsm : l0.length ≤ 20 ∧ l1.length ≤ 20 ∧ l2.length ≤ 20
  · rw [decide_eq_true hsm] at Hfew
    obtain ⟨hs0, hs1, hs2⟩ := hsm
    go_wp2_with fail
    refine Hfew.out.mono ?_
    rintro e u2 ⟨rfl, d2'⟩
    have d12 : Below u1.heap.size u1 u2 := (below1 _ _).trans (d2'.mono (B' := u1.heap.size) (by simp))
    have HT2 := hid (HT.out.below d12)
    have gz := HT2.out.lt
    have bw2 := hid (bw.out.trans (d12.mono (B' := w.heap.size) (by omega)))
    have A0 := H0.out.below bw2.out; have A1 := H1.out.below bw2.out; have A2 := H2.out.below bw2.out
    obtain ⟨za, hza⟩ : ∃ z, z = sg n0 (val W l0) := ⟨_, rfl⟩
    obtain ⟨zb, hzb⟩ : ∃ z, z = sg n1 (val W l1) := ⟨_, rfl⟩
    obtain ⟨zc, hzc⟩ : ∃ z, z = sg n2 (val W l2) := ⟨_, rfl⟩
    have RA : RawAt u2 (.agg #[.bool n0, .slice p0 l0.length c0]) za := ⟨_, _, l0, rfl, A0, w0, by omega, hza⟩
    have RB : RawAt u2 (.agg #[.bool n1, .slice p1 l1.length c1]) zb := ⟨_, _, l1, rfl, A1, w1, by omega, hzb⟩
    have RC : RawAt u2 (.agg #[.bool n2, .slice p2 l2.length c2]) zc := ⟨_, _, l2, rfl, A2, w2, by omega, hzc⟩
    have RS : RawAt u2 (.agg #[.bool false, .slice p1 l1.length c1]) (zb.natAbs : Nat) := ⟨_, _, l1, rfl, A1, w1, by omega, by rw [hzb, sg_natAbs]; simp [sg]⟩
    have la : sz W za.natAbs ≤ 20 := by rw [hza, sg_natAbs]; exact Nat.le_trans (sz_val (by simp [W]) w0) (by omega)
    have lb : sz W zb.natAbs ≤ 20 := by rw [hzb, sg_natAbs]; exact Nat.le_trans (sz_val (by simp [W]) w1) (by omega)
    have lc : sz W zc.natAbs ≤ 20 := by rw [hzc, sg_natAbs]; exact Nat.le_trans (sz_val (by simp [W]) w2) (by omega)
    have HS : Hid (∀ w', Below u2.heap.size u2 w' → w'.cell? ⟨w.heap.size, 0, none⟩ = some (.bool n0) ∧ w'.cell? ⟨w.heap.size, 1, none⟩ = some (.slice p0 l0.length c0) ∧ w'.cell? ⟨w.heap.size + 1, 0, none⟩ = some (.bool n1) ∧ w'.cell? ⟨w.heap.size + 1, 1, none⟩ = some (.slice p1 l1.length c1) ∧
        w'.cell? ⟨w.heap.size + 1 + 1, 0, none⟩ = some (.bool n2) ∧ w'.cell? ⟨w.heap.size + 1 + 1, 1, none⟩ = some (.slice p2 l2.length c2) ∧ Below u2.heap.size u2 w') := by
      intro w' hb
      have ht := HT2.out.below hb
      exact ⟨ht.c00, ht.c01, ht.c10, ht.c11, ht.c20, ht.c21, hb⟩
    have HRA := hid RA; have HRB := hid RB; have HRC := hid RC; have HRS := hid RS; have Hla := hid la; have Hlb := hid lb; have Hlc := hid lc
    clear d2' d12 HT t00 t01 t10 t11 t20 t21 tz bw Hfew A0 A1 A2 RA RB RC RS la lb lc hza hzb hzc H0 H1 H2 w0 w1 w2
    have Hla' := hid (Nat.le_trans Hla.out (show 20 ≤ 549755813888 by decide)); have Hlb' := hid (Nat.le_trans Hlb.out (show 20 ≤ 549755813888 by decide)); have Hlc' := hid (Nat.le_trans Hlc.out (show 20 ≤ 549755813888 by decide))
    have sb1 : sz W (zb + zc).natAbs ≤ 21 := sz_add_int Hlb.out Hlc.out
    have sbc := hid (Nat.le_trans sb1 (show 21 ≤ 1099511627776 by decide))
    have sbc' := hid (Nat.le_trans sb1 (show 21 ≤ 549755813888 by decide))
    have sabc : Hid (sz W (za * (zb + zc)).natAbs ≤ 1099511627776) := Nat.le_trans (sz_mul_int _ _) (by have := Hla.out; omega)
    have sab : Hid (sz W (za * zb).natAbs ≤ 1099511627776) := Nat.le_trans (sz_mul_int _ _) (by have := Hla.out; have := Hlb.out; omega)
    have sac : Hid (sz W (za * zc).natAbs ≤ 1099511627776) := Nat.le_trans (sz_mul_int _ _) (by have := Hla.out; have := Hlc.out; omega)
    clear sb1
    go_wp2_with fail
    go_region_held3 (fun w' => w'.cell? ⟨w.heap.size, 0, none⟩ = some (.bool n0) ∧ w'.cell? ⟨w.heap.size, 1, none⟩ = some (.slice p0 l0.length c0) ∧ w'.cell? ⟨w.heap.size + 1, 0, none⟩ = some (.bool n1) ∧ w'.cell? ⟨w.heap.size + 1, 1, none⟩ = some (.slice p1 l1.length c1) ∧
        w'.cell? ⟨w.heap.size + 1 + 1, 0, none⟩ = some (.bool n2) ∧ w'.cell? ⟨w.heap.size + 1 + 1, 1, none⟩ = some (.slice p2 l2.length c2) ∧ Below u2.heap.size u2 w')
        (first | exact HS.out _ (Below.drew (Below.refl _ _)) | (refine HS.out _ (Below.go hb ?_); go_split_ands; assumption))
        (first
          | (go_at_call_of 13 (p1); refine (Add_any _ _ zb zc _ (HRB.out.below (by go_split_ands; assumption)) (HRC.out.below (by go_split_ands; assumption))).mono ?_; rintro e wa ⟨v1, rfl, i1, hb⟩; have r1 := i1.raw sbc.out)
          | (go_at_call_of 26 (v1); refine (Mul_any _ _ za (zb + zc) _ (HRA.out.below (by go_split_ands; assumption)) r1 Hla'.out sbc'.out).mono ?_; rintro e wa ⟨v2, rfl, i2, hb⟩; clear r1; have r2 := i2.raw sabc.out)
          | (go_at_call_of 26 (p1); have _t := r2; refine (Mul_any _ _ za zb _ (HRA.out.below (by go_split_ands; assumption)) (HRB.out.below (by go_split_ands; assumption)) Hla'.out Hlb'.out).mono ?_; rintro e wa ⟨v3, rfl, i3, hb⟩; have q2 := r2.below hb; clear _t r2; have r3 := i3.raw sab.out)
          | (go_at_call_of 26 (p2); refine (Mul_any _ _ za zc _ (HRA.out.below (by go_split_ands; assumption)) (HRC.out.below (by go_split_ands; assumption)) Hla'.out Hlc'.out).mono ?_; rintro e wa ⟨v4, rfl, i4, hb⟩; have o2 := q2.below hb; clear q2; have q3 := r3.below hb; clear r3; have r4 := i4.raw sac.out)
          | (go_at_call_of 13 (v3); refine (Add_any _ _ (za * zb) (za * zc) _ q3 r4).mono ?_; rintro e wa ⟨v5, rfl, i5, hb⟩; rw [← Int.mul_add] at i5; have t2 := o2.below hb; clear o2 q3 r4; have r5 := i5.raw sabc.out)
          | (go_at_call_of 17 (v5); refine (Cmp_same _ _ (za * (zb + zc)) _ t2 r5).mono ?_; rintro e wa ⟨rfl, hb⟩; clear t2 r5)
          | (go_at_call_of 26 (p1); (fail_if_success have _t := r6); refine (Mul_any _ _ za zb _ (HRA.out.below (by go_split_ands; assumption)) (HRB.out.below (by go_split_ands; assumption)) Hla'.out Hlb'.out).mono ?_; rintro e wa ⟨v6, rfl, i6, hb⟩; have r6 := i6.raw sab.out)
          | (go_at_call_of 26 (p1); have _t := r6; refine (Mul_any _ _ zb za _ (HRB.out.below (by go_split_ands; assumption)) (HRA.out.below (by go_split_ands; assumption)) Hlb'.out Hla'.out).mono ?_; rintro e wa ⟨v7, rfl, i7, hb⟩; rw [Int.mul_comm zb za] at i7; have q6 := r6.below hb; clear _t r6; have r7 := i7.raw sab.out)
          | (go_at_call_of 17 (v7); refine (Cmp_same _ _ (za * zb) _ q6 r7).mono ?_; rintro e wb ⟨rfl, hb⟩; clear q6 r7))
    rename_i hHeld
    go_split_ands
    have HB := hid (show Below u2.heap.size u2 wb by assumption)
    by_cases hzb : zb = 0
    · have RB0 := hid (hzb ▸ HRB.out)
      go_wp2_with fail
      refine (Div_zero _ _ za _ (HRA.out.below HB.out) (RB0.out.below HB.out)).mono ?_
      rintro e w3 ⟨vq, vr, rfl, hq, hr, hb⟩
      obtain ⟨pq, nq, cq, rfl, -⟩ := hq.shape
      obtain ⟨pr, nr, cr, rfl, -⟩ := hr.shape
      have HB3 := hid (Below.go hb HB.out)
      have hk := HS.out _ HB3.out
      clear hb
      go_split_ands
      go_upto_region 8 with fail
      generalize hW : World.alloc (World.alloc w3 _) _ = W4
      have HB4 : Hid (Below u2.heap.size u2 W4) := by unfold Hid; rw [← hW]; exact (HB3.out.alloc HB3.out.size _).alloc (by have := HB3.out.size; simp; omega) _
      clear hW
      have hk := HS.out _ HB4.out
      go_split_ands
      have hsg := Sign_any _ 0 W4 (RB0.out.below HB4.out)
      rw [Int.sign_zero] at hsg
      have Hsg := hid hsg
      clear hsg
      go_wp2_with fail
      refine Hsg.out.mono ?_
      rintro e w5 ⟨rfl, hb⟩
      have HB5 := hid (Below.go hb HB4.out)
      clear hb
      go_wp2_with fail
      go_ret
      exact ⟨rfl, bw2.out.trans (HB5.out.mono bw2.out.size)⟩
    · have hsz : (zb.sign == 0) = false := beq_eq_false_iff_ne.2 (fun e => hzb (Int.sign_eq_zero_iff_zero.1 e))
      go_wp2_with fail
      refine (Div_any _ _ za zb _ (HRA.out.below HB.out) (HRB.out.below HB.out) hzb).mono ?_
      rintro e w3 ⟨vq, vr, rfl, hq, hr, hb⟩
      have hq := hq.parts
      obtain ⟨dq, pq, nq, cq, rfl, hq⟩ := hq
      have hr := hr.parts
      obtain ⟨dr, pr, nr, cr, rfl, hr⟩ := hr
      have HB3 := hid (Below.go hb HB.out)
      have hk := HS.out _ HB3.out
      clear hb
      go_split_ands
      go_upto_region 8 with fail
      generalize hW : World.alloc (World.alloc w3 _) _ = W4
      have X4 : Below w3.heap.size w3 W4 ∧ Two W4 w3.heap.size (.bool dq) (.slice pq nq cq) (.bool dr) (.slice pr nr cr) := by
        rw [← hW]; exact ⟨Below.two (Below.refl _ _) _ _, Two.new ..⟩
      have HB4 := hid (Below.go X4.1 HB3.out)
      have Q4 := hid X4.2
      have hq4 := hid (hq.below X4.1)
      have hr4 := hid (hr.below X4.1)
      clear hW X4 hq hr
      obtain ⟨gq, hgq⟩ : ∃ g, g = w3.heap.size := ⟨_, rfl⟩
      rw [← hgq] at Q4 ⊢
      clear hgq
      have hk := HS.out _ HB4.out
      go_split_ands
      go_wp2_with fail
      refine (Sign_any _ zb W4 (HRB.out.below HB4.out)).mono ?_
      rintro e w5 ⟨rfl, hb⟩
      have HB5 := hid (Below.go hb HB4.out)
      have B45 := hid hb
      have hk := HS.out _ HB5.out
      clear hb
      go_split_ands
      go_wp2_with fail
      refine (Gcd_any _ _ za zb _ (HRA.out.below HB5.out) (HRB.out.below HB5.out)).mono ?_
      rintro e w6 ⟨vg, rfl, hg, hb⟩
      have hg := hg.parts
      obtain ⟨dg, pg, ng, cg, rfl, hg⟩ := hg
      have HB6 := hid (Below.go hb HB5.out)
      have B46 := hid (Below.go hb B45.out)
      have hk := HS.out _ HB6.out
      clear hb
      go_split_ands
      go_upto_region 11 with fail
      generalize hW : World.alloc w6 _ = W7
      have X7 : Below w6.heap.size w6 W7 ∧ One W7 w6.heap.size (.bool dg) (.slice pg ng cg) := by
        rw [← hW]; exact ⟨below1 _ _, One.new ..⟩
      have HB7 := hid (Below.go X7.1 HB6.out)
      have B47 := hid (Below.go X7.1 B46.out)
      have G7 := hid X7.2
      have hg7 := hid (hg.below X7.1)
      clear hW X7 hg
      obtain ⟨gg, hgg⟩ : ∃ g, g = w6.heap.size := ⟨_, rfl⟩
      rw [← hgg] at G7 ⊢
      clear hgg
      have hk := HS.out _ HB7.out
      have k1 := G7.out.c0; have k2 := G7.out.c1
      go_split_ands
      obtain ⟨zg, hzg⟩ : ∃ z : Int, z = ((Nat.gcd za.natAbs zb.natAbs : Nat) : Int) := ⟨_, rfl⟩
      rw [← hzg] at hg7
      have hzg0 : zg ≠ 0 := by
        rw [hzg]
        intro e
        have := Int.ofNat_eq_zero.1 e
        rw [Nat.gcd_eq_zero_iff] at this
        exact hzb (Int.natAbs_eq_zero.1 this.2)
      have hga : za % zg = 0 := by rw [hzg]; exact Int.emod_eq_zero_of_dvd (Int.ofNat_dvd_left.2 (Nat.gcd_dvd_left _ _))
      have hgb : zb % zg = 0 := by rw [hzg]; exact Int.emod_eq_zero_of_dvd (Int.ofNat_dvd_left.2 (Nat.gcd_dvd_right _ _))
      have lg : sz W zg.natAbs ≤ 1099511627776 := by
        rw [hzg, Int.natAbs_natCast]
        refine Nat.le_trans (sz_mono W2 (Nat.gcd_le_right _ (Int.natAbs_pos.2 hzb))) ?_
        have := Hlb.out; omega
      have Hga := hid hga; have Hgb := hid hgb; have Hlg := hid lg
      have RG := hid (IntAt.raw hg7.out lg)
      clear hzg hga hgb lg
      go_wp2_with fail
      refine (Div_any _ _ za zg _ (HRA.out.below HB7.out) RG.out hzg0).mono ?_
      rintro e w8 ⟨vd, vu, rfl, hd, hu, hb⟩
      rw [Hga.out] at hu
      have hd := hd.parts
      obtain ⟨dd, pd, nd, cd, rfl, -⟩ := hd
      have hu := hu.parts
      obtain ⟨du, pu, nu, cu, rfl, hu⟩ := hu
      have HB8 := hid (Below.go hb HB7.out)
      have B78 := hid hb
      have hk := HS.out _ HB8.out
      clear hb k1 k2
      go_split_ands
      go_upto_region 12 with fail
      generalize hW : World.alloc (World.alloc w8 _) _ = W9
      have X9 : Below w8.heap.size w8 W9 ∧ Two W9 w8.heap.size (.bool dd) (.slice pd nd cd) (.bool du) (.slice pu nu cu) := by
        rw [← hW]; exact ⟨Below.two (Below.refl _ _) _ _, Two.new ..⟩
      have HB9 := hid (Below.go X9.1 HB8.out)
      have B79 := hid (Below.go X9.1 B78.out)
      have U9 := hid X9.2
      have hu9 := hid (hu.below X9.1)
      clear hW X9 hu
      obtain ⟨gu, hgu⟩ : ∃ g, g = w8.heap.size := ⟨_, rfl⟩
      rw [← hgu] at U9 ⊢
      clear hgu
      have G9 := hid (G7.out.below B79.out)
      have hk := HS.out _ HB9.out
      have k1 := G9.out.c0; have k2 := G9.out.c1
      go_split_ands
      go_wp2_with fail
      refine (Div_any _ _ zb zg _ (HRB.out.below HB9.out) (RG.out.below B79.out) hzg0).mono ?_
      rintro e w10 ⟨vd, vv, rfl, hd, hv, hb⟩
      rw [Hgb.out] at hv
      have hd := hd.parts
      obtain ⟨de, pe, ne, ce, rfl, -⟩ := hd
      have hv := hv.parts
      obtain ⟨dv, pv, nv, cv, rfl, hv⟩ := hv
      have HB10 := hid (Below.go hb HB9.out)
      have B910 := hid hb
      have hk := HS.out _ HB10.out
      clear hb k1 k2
      go_split_ands
      go_upto_region 13 with fail
      generalize hW : World.alloc (World.alloc w10 _) _ = W11
      have X11 : Below w10.heap.size w10 W11 ∧ Two W11 w10.heap.size (.bool de) (.slice pe ne ce) (.bool dv) (.slice pv nv cv) := by
        rw [← hW]; exact ⟨Below.two (Below.refl _ _) _ _, Two.new ..⟩
      have HB11 := hid (Below.go X11.1 HB10.out)
      have B911 := hid (Below.go X11.1 B910.out)
      have V11 := hid X11.2
      have hv11 := hid (hv.below X11.1)
      clear hW X11 hv
      obtain ⟨gv, hgv⟩ : ∃ g, g = w10.heap.size := ⟨_, rfl⟩
      rw [← hgv] at V11 ⊢
      clear hgv
      have hk := HS.out _ HB11.out
      go_split_ands
      go_upto_region 15 with fail
      generalize hW : World.alloc W11 _ = W12
      have X12 : Below W11.heap.size W11 W12 ∧ One W12 W11.heap.size (.bool false) (.slice p1 l1.length c1) := by
        rw [← hW]; exact ⟨below1 _ _, One.new ..⟩
      have HB12 := hid (Below.go X12.1 HB11.out)
      have B912 := hid (Below.go X12.1 B911.out)
      have B712 := hid (Below.go B912.out B79.out)
      have B412 := hid (Below.go B712.out B47.out)
      have S12 := hid X12.2
      have V12 := hid (V11.out.below X12.1)
      have U12 := hid (U9.out.below B912.out)
      have Q12 := hid (Q4.out.below B412.out)
      have T12 := hid (HT2.out.below HB12.out)
      have hv12 := hid (hv11.out.below X12.1)
      clear hW X12
      obtain ⟨gs, hgs⟩ : ∃ g, g = W11.heap.size := ⟨_, rfl⟩
      rw [← hgs] at S12 ⊢
      clear hgs
      have HS12 : Hid (∀ w', Below W12.heap.size W12 w' → w'.cell? ⟨w.heap.size, 0, none⟩ = some (.bool n0) ∧ w'.cell? ⟨w.heap.size, 1, none⟩ = some (.slice p0 l0.length c0) ∧ w'.cell? ⟨w.heap.size + 1, 0, none⟩ = some (.bool n1) ∧ w'.cell? ⟨w.heap.size + 1, 1, none⟩ = some (.slice p1 l1.length c1) ∧ w'.cell? ⟨gq, 0, none⟩ = some (.bool dq) ∧ w'.cell? ⟨gq, 1, none⟩ = some (.slice pq nq cq) ∧ w'.cell? ⟨gq + 1, 0, none⟩ = some (.bool dr) ∧ w'.cell? ⟨gq + 1, 1, none⟩ = some (.slice pr nr cr) ∧ w'.cell? ⟨gu + 1, 0, none⟩ = some (.bool du) ∧ w'.cell? ⟨gu + 1, 1, none⟩ = some (.slice pu nu cu) ∧ w'.cell? ⟨gv + 1, 0, none⟩ = some (.bool dv) ∧ w'.cell? ⟨gv + 1, 1, none⟩ = some (.slice pv nv cv) ∧ w'.cell? ⟨gs, 0, none⟩ = some (.bool false) ∧ w'.cell? ⟨gs, 1, none⟩ = some (.slice p1 l1.length c1) ∧ Below W12.heap.size W12 w') := by
        intro w' hb
        have a := T12.out.below hb; have b := Q12.out.below hb; have c := U12.out.below hb; have d := V12.out.below hb; have e := S12.out.below hb
        exact ⟨a.c00, a.c01, a.c10, a.c11, b.c00, b.c01, b.c10, b.c11, c.c10, c.c11, d.c10, d.c11, e.c0, e.c1, hb⟩
      have lq : sz W (za / zb).natAbs ≤ 20 := Nat.le_trans (sz_mono W2 (Int.natAbs_ediv_le_natAbs za zb)) Hla.out
      have hml : za % zb < zb.natAbs := Int.emod_lt za hzb
      have hm0 : 0 ≤ za % zb := Int.emod_nonneg za hzb
      have lr : sz W (za % zb).natAbs ≤ 20 := Nat.le_trans (sz_mono W2 (by omega)) Hlb.out
      have RQ := hid (IntAt.raw (hq4.out.below B412.out) (Nat.le_trans lq (by decide)))
      have RR := hid (IntAt.raw (hr4.out.below B412.out) (Nat.le_trans lr (by decide)))
      have RU := hid (IntAt.raw (hu9.out.below B912.out) (by show sz W 0 ≤ _; rw [sz_zero]; omega))
      have RV := hid (IntAt.raw hv12.out (by show sz W 0 ≤ _; rw [sz_zero]; omega))
      have RA12 := hid (HRA.out.below HB12.out)
      have RB12 := hid (HRB.out.below HB12.out)
      have RS12 := hid (HRS.out.below HB12.out)
      have Lq := hid (Nat.le_trans lq (show 20 ≤ 549755813888 by decide))
      have Lqb : Hid (sz W (za / zb * zb).natAbs ≤ 1099511627776) := Nat.le_trans (sz_mul_int _ _) (by have := Hlb.out; omega)
      have Lza : Hid (sz W za.natAbs ≤ 1099511627776) := Nat.le_trans Hla.out (by decide)
      have Hdm : Hid (za / zb * zb + za % zb = za) := by unfold Hid; rw [Int.mul_comm]; exact Int.mul_ediv_add_emod za zb
      have Hlt : Hid (∀ w', Below W12.heap.size W12 w' → Calls Tryd.prog 17 #[.agg #[.bool dr, .slice pr nr cr], .agg #[.bool false, .slice p1 l1.length c1]] w' (RNum .i64 (-1) w')) := by
        intro w' hb
        have := Cmp_any _ _ _ _ w' (RR.out.below hb) (RS12.out.below hb)
        rwa [ord_lt hml] at this
      have Hsu : Hid (∀ w', Below W12.heap.size W12 w' → Calls Tryd.prog 19 #[.agg #[.bool du, .slice pu nu cu]] w' (RNum .i64 0 w')) := by
        intro w' hb
        have := Sign_any _ _ w' (RU.out.below hb)
        rwa [Int.sign_zero] at this
      have Hsv : Hid (∀ w', Below W12.heap.size W12 w' → Calls Tryd.prog 19 #[.agg #[.bool dv, .slice pv nv cv]] w' (RNum .i64 0 w')) := by
        intro w' hb
        have := Sign_any _ _ w' (RV.out.below hb)
        rwa [Int.sign_zero] at this
      have hsr : 0 ≤ (za % zb).sign := Int.sign_nonneg_iff.2 hm0
      have bw12 := hid (bw2.out.trans (HB12.out.mono bw2.out.size))
      clear lq lr hml hm0 hzb hzg0 hsz
      go_region_held3 (fun w' => w'.cell? ⟨w.heap.size, 0, none⟩ = some (.bool n0) ∧ w'.cell? ⟨w.heap.size, 1, none⟩ = some (.slice p0 l0.length c0) ∧ w'.cell? ⟨w.heap.size + 1, 0, none⟩ = some (.bool n1) ∧ w'.cell? ⟨w.heap.size + 1, 1, none⟩ = some (.slice p1 l1.length c1) ∧ w'.cell? ⟨gq, 0, none⟩ = some (.bool dq) ∧ w'.cell? ⟨gq, 1, none⟩ = some (.slice pq nq cq) ∧ w'.cell? ⟨gq + 1, 0, none⟩ = some (.bool dr) ∧ w'.cell? ⟨gq + 1, 1, none⟩ = some (.slice pr nr cr) ∧ w'.cell? ⟨gu + 1, 0, none⟩ = some (.bool du) ∧ w'.cell? ⟨gu + 1, 1, none⟩ = some (.slice pu nu cu) ∧ w'.cell? ⟨gv + 1, 0, none⟩ = some (.bool dv) ∧ w'.cell? ⟨gv + 1, 1, none⟩ = some (.slice pv nv cv) ∧ w'.cell? ⟨gs, 0, none⟩ = some (.bool false) ∧ w'.cell? ⟨gs, 1, none⟩ = some (.slice p1 l1.length c1) ∧ Below W12.heap.size W12 w')
        (first | exact HS12.out _ (Below.drew (Below.refl _ _)) | (refine HS12.out _ (Below.go hb ?_); go_split_ands; assumption))
        (first
          | (go_at_call 26; refine (Mul_any _ _ (za / zb) zb _ (RQ.out.below (by go_split_ands; assumption)) (RB12.out.below (by go_split_ands; assumption)) Lq.out Hlb'.out).mono ?_; rintro e wa ⟨v1, rfl, i1, hb⟩; have r1 := i1.raw Lqb.out)
          | (go_at_call 13; refine (Add_any _ _ (za / zb * zb) (za % zb) _ r1 (RR.out.below (by go_split_ands; assumption))).mono ?_; rintro e wa ⟨v2, rfl, i2, hb⟩; rw [Hdm.out] at i2; clear r1; have r2 := i2.raw Lza.out)
          | (go_at_call_of 17 (v2); refine (Cmp_same _ _ za _ r2 (RA12.out.below (by go_split_ands; assumption))).mono ?_; rintro e wa ⟨rfl, hb⟩; clear r2)
          | (go_at_call_of 19 (pr); refine (Sign_any _ (za % zb) _ (RR.out.below (by go_split_ands; assumption))).mono ?_; rintro e wa ⟨rfl, hb⟩)
          | (go_at_call_of 17 (pr); refine (Hlt.out _ (by go_split_ands; assumption)).mono ?_; rintro e wa ⟨rfl, hb⟩)
          | (go_at_call_of 19 (pu); refine (Hsu.out _ (by go_split_ands; assumption)).mono ?_; rintro e wa ⟨rfl, hb⟩)
          | (go_at_call_of 19 (pv); refine (Hsv.out _ (by go_split_ands; assumption)).mono ?_; rintro e wb ⟨rfl, hb⟩))
      rename_i hHeld'
      go_split_ands
      have HBf := hid (show Below W12.heap.size W12 wb by assumption)
      go_wp2_with fail
      go_ret
      exact ⟨rfl, bw12.out.trans (HBf.out.mono bw12.out.size)⟩
  · rw [decide_eq_false hsm] at Hfew
    clear hsm
    go_wp2_with fail
    refine Hfew.out.mono ?_
    rintro e u2 ⟨rfl, d2⟩
    have bw2 := hid (bw.out.trans (((below1 _ _).trans (d2.mono (B' := u1.heap.size) (by simp))).mono (B' := w.heap.size) (by omega)))
    clear d2 HT t00 t01 t10 t11 t20 t21 tz bw Hfew
    go_wp2_with fail
    go_ret
    exact ⟨rfl, bw2.out⟩
end Go.Proofs.YtlicmnlllappnaaDoor
/- elenchuslaw01.WholeProducts answers true. -/
namespace Go.Proofs.YtlicmnlllappnaaDoor
open Go.RowKit Big
theorem IntAt.noughts {w : World} {v : Value} (h : IntAt w v 0) : ∃ p c, v = .agg #[.bool false, .slice p 0 c] := by
  obtain ⟨s, rfl, p, c, rfl, -⟩ := h
  exact ⟨p, c, by simp; rfl⟩

set_option maxRecDepth 100000 in
set_option maxHeartbeats 8000000 in
theorem lawProducts_any (n0 n1 : Bool) (s0 s1 : Value) (l0 l1 : List Nat) (w : World) (h0 : At w .u64 s0 l0) (h1 : At w .u64 s1 l1) (w0 : Small W l0) (w1 : Small W l1) :
    Calls Tryd.prog 4 #[.agg #[.bool n0, s0], .agg #[.bool n1, s1]] w (RBool true w) := by
  have H0 := hid h0; have H1 := hid h1
  obtain ⟨p0, c0, rfl, a1, a2, -⟩ := h0
  obtain ⟨p1, c1, rfl, b1, b2, -⟩ := h1
  unfold maxLen at a2 b2
  have hf := fun o o' => fixed_any ((w.alloc o).alloc o')
  have Hf := hid hf
  clear hf
  go_enter Tryd.func4, Tryd.ntmps4
  go_wp2_with fail
  refine (Hf.out _ _).mono ?_
  rintro e u1 ⟨rfl, d1⟩
  have tw := (Two.new w (.bool n0) (.slice p0 l0.length c0) (.bool n1) (.slice p1 l1.length c1) 25).below d1
  have bw := hid ((((below1 _ _).alloc (by simp) _) : Below w.heap.size w ((w.alloc (.cells #[.bool n0, .slice p0 l0.length c0] 25)).alloc (.cells #[.bool n1, .slice p1 l1.length c1] 25))).trans (d1.mono (B' := w.heap.size) (by simp; omega)))
  have HT := hid tw
  obtain ⟨t00, t01, t10, t11, tz⟩ := tw
  obtain ⟨f0, f1, f2, f3⟩ := four_cells (heap_alloc_new u1 (.cells #[.bool n0, .slice p0 l0.length c0, .bool n1, .slice p1 l1.length c1] 25))
  have hfew := few2_any u1.heap.size n0 n1 p0 p1 l0.length c0 l1.length c1 2 _ f0 f1 f2 f3 (by omega) (by omega)
  have Hfew := hid hfew
  clear hfew f0 f1 f2 f3 d1
  by_cases hsm : l0.length ≤ 20 ∧ l1.length ≤ 20
  · rw [decide_eq_true hsm] at Hfew
    obtain ⟨hs0, hs1⟩ := hsm
    go_wp2_with fail
    refine Hfew.out.mono ?_
    rintro e u2 ⟨rfl, d2⟩
    have d12 : Below u1.heap.size u1 u2 := (below1 _ _).trans (d2.mono (B' := u1.heap.size) (by simp))
    have HT2 := hid (HT.out.below d12)
    have gz := HT2.out.lt
    have bw2 := hid (bw.out.trans (d12.mono (B' := w.heap.size) (by omega)))
    have A0 := hid (H0.out.below bw2.out); have A1 := hid (H1.out.below bw2.out)
    clear d2 d12 HT t00 t01 t10 t11 tz bw Hfew
    have t01 := HT2.out.c01; have t11 := HT2.out.c11
    by_cases hs8 : l0.length ≤ 8 ∧ l1.length ≤ 8
    case neg =>
      have hfalse : (decide ((8 : Int) < (l0.length : Int)) = true) ∨ (decide ((8 : Int) < (l0.length : Int)) = false ∧ decide ((8 : Int) < (l1.length : Int)) = true) := by
        rcases Nat.lt_or_ge 8 l0.length with h | h
        · exact Or.inl (decide_eq_true (by omega))
        · exact Or.inr ⟨decide_eq_false (by omega), decide_eq_true (by omega)⟩
      generalize l0.length = k0 at *
      generalize l1.length = k1 at *
      rcases hfalse with hd | ⟨hd, hd'⟩
      all_goals
        go_wp2_with fail
        go_ret
        exact ⟨rfl, bw2.out⟩
    obtain ⟨hs80, hs81⟩ := hs8
    have hd0 : decide ((8 : Int) < (l0.length : Int)) = false := decide_eq_false (by omega)
    have hd1 : decide ((8 : Int) < (l1.length : Int)) = false := decide_eq_false (by omega)
    go_upto_region 5 with fail
    clear t01 t11 hd0 hd1
    go_cut [5, 6] (fun s5 s6 wx => Done2 w.heap.size n0 n1 p0 p1 c0 c1 l0 l1 u2.heap.size u2 s5 s6 wx)
    case first =>
      rename_i Jc Kc hJc hKc
      refine wp_region_inv6 5 6 31 32 33 34 undef undef undef undef undef undef (fun L s5 s6 s15 s16 s17 s18 wx => C2 w.heap.size n0 n1 p0 p1 c0 c1 l0 l1 u2.heap.size u2 L s5 s6 s15 s16 s17 s18 wx) (by kernel_rfl) (by kernel_rfl) ?_ ?_ ?_ ?_
      · rfl
      · exact C2.start HT2.out A0.out A1.out
      · intro i o ho L s5 s6 s15 s16 s17 s18 wx hs hC hun hall K hK
        have HC := hid hC
        rcases i with _ | _ | _ | _ | _ | _ | _ | _ | i
        all_goals (simp only [List.getElem?_toArray, List.getElem?_cons_zero, List.getElem?_cons_succ, Option.some.injEq, List.getElem?_nil, reduceCtorEq] at ho)
        all_goals (subst ho)
        all_goals simp only [put6, Act.put, List.setIfInBounds_toArray, List.set_cons_zero, List.set_cons_succ]
        · have t00 := HC.out.two.c00
          have t01 := HC.out.two.c01
          go_simp
          exact hK.out _ _ _ _ _ _ _ HC.out.load0
        · have e15 := HC.out.f0 (hall ⟨0, .data⟩ (by simp) rfl)
          subst e15
          go_simp
          refine (copied_any n0 _ l0 _ HC.out.a0 (by omega)).mono ?_
          rintro e u3 ⟨q0, k0, rfl, x0, hb1⟩
          have C' := HC.out.call1 hb1 ⟨q0, k0, rfl, x0⟩
          go_wp2_with fail
          exact hK.out _ _ _ _ _ _ _ C'
        · have t10 := HC.out.two.c10
          have t11 := HC.out.two.c11
          go_simp
          exact hK.out _ _ _ _ _ _ _ HC.out.load2
        · have e17 := HC.out.f2 (hall ⟨2, .data⟩ (by simp) rfl)
          subst e17
          go_simp
          refine (copied_any n1 _ l1 _ HC.out.a1 (by omega)).mono ?_
          rintro e u3 ⟨q0, k0, rfl, x0, hb1⟩
          have C' := HC.out.call3 hb1 ⟨q0, k0, rfl, x0⟩
          go_wp2_with fail
          exact hK.out _ _ _ _ _ _ _ C'
        · have C' := HC.out.alloc4 hun
          go_simp
          exact hK.out _ _ _ _ _ _ _ C'
        · have C' := HC.out.alloc5 hun
          go_simp
          exact hK.out _ _ _ _ _ _ _ C'
        · have e5 := HC.out.f4 (hall ⟨4, .data⟩ (by simp) rfl)
          have e16 := HC.out.f1 (hall ⟨1, .data⟩ (by simp) rfl)
          have h4 := hall ⟨4, .data⟩ (by simp) rfl
          have h5 := hall ⟨5, .phase⟩ (by simp) rfl
          obtain ⟨g, rfl, hp, hB⟩ := e5
          obtain ⟨q, k, rfl, ha⟩ := e16
          have C' := HC.out.store6 h4 h5 hun rfl hp hB ha
          obtain ⟨_, _, q0, q1, q2, q3⟩ := hp.cells
          go_simp
          exact hK.out _ _ _ _ _ _ _ C'
        · have e6 := HC.out.f5 (hall ⟨5, .data⟩ (by simp) rfl)
          have e18 := HC.out.f3 (hall ⟨3, .data⟩ (by simp) rfl)
          have h6 := hall ⟨6, .chain⟩ (by simp) rfl
          obtain ⟨g, rfl, hp, hB⟩ := e6
          obtain ⟨q, k, rfl, ha⟩ := e18
          have C' := HC.out.store7 h6 rfl hp hB ha
          obtain ⟨_, _, q0, q1, q2, q3⟩ := hp.cells
          go_simp
          exact hK.out _ _ _ _ _ _ _ C'
      · intro L s5 s6 s15 s16 s17 s18 wx hs hC hall
        have hD := hC.done (listed_of hall hs (by decide)) (listed_of hall hs (by decide))
        simp only [put6, Act.put, List.setIfInBounds_toArray, List.set_cons_zero, List.set_cons_succ]
        refine hKc _ _ (Met.intro (hJc _ _ ?_))
        (repeat apply Exists.intro)
        exact ⟨hD, rfl⟩
    case rest =>
      have e5 := hcut.hx
      have e6 := hcut.hy
      have HD := hid hcut
      clear hcut
      obtain ⟨g5, q0, k0, rfl, hg5, x0⟩ := e5
      obtain ⟨g6, q1, k1, rfl, hg6, x1⟩ := e6
      have bw3 : Below w.heap.size w wc := bw2.out.trans (HD.out.bel.mono (B' := w.heap.size) (by omega))
      have HS : Hid (∀ w', Below wc.heap.size wc w' → w'.cell? ⟨w.heap.size, 0, none⟩ = some (.bool n0) ∧ w'.cell? ⟨w.heap.size, 1, none⟩ = some (.slice p0 l0.length c0) ∧ w'.cell? ⟨w.heap.size + 1, 0, none⟩ = some (.bool n1) ∧ w'.cell? ⟨w.heap.size + 1, 1, none⟩ = some (.slice p1 l1.length c1) ∧
          w'.cell? ⟨g5, 0, none⟩ = some (.bool n0) ∧ w'.cell? ⟨g5, 1, none⟩ = some (.slice q0 l0.length k0) ∧ w'.cell? ⟨g6, 0, none⟩ = some (.bool n1) ∧ w'.cell? ⟨g6, 1, none⟩ = some (.slice q1 l1.length k1) ∧ Below wc.heap.size wc w') := by
        intro w' hb
        have ht := HD.out.two.below hb
        have h5 := two_cells ((hb.block g5 (Array.getElem?_eq_some_iff.1 hg5).1).trans hg5)
        have h6 := two_cells ((hb.block g6 (Array.getElem?_eq_some_iff.1 hg6).1).trans hg6)
        exact ⟨ht.c00, ht.c01, ht.c10, ht.c11, h5.1, h5.2.1, h6.1, h6.2.1, hb⟩
      obtain ⟨za, hza⟩ : ∃ z, z = sg n0 (val W l0) := ⟨_, rfl⟩
      obtain ⟨zb, hzb⟩ : ∃ z, z = sg n1 (val W l1) := ⟨_, rfl⟩
      have RA : RawAt wc (.agg #[.bool n0, .slice p0 l0.length c0]) za := ⟨_, _, l0, rfl, HD.out.a0, w0, by omega, hza⟩
      have RB : RawAt wc (.agg #[.bool n1, .slice p1 l1.length c1]) zb := ⟨_, _, l1, rfl, HD.out.a1, w1, by omega, hzb⟩
      have RX : RawAt wc (.agg #[.bool n0, .slice q0 l0.length k0]) za := ⟨_, _, l0, rfl, x0, w0, by omega, hza⟩
      have RY : RawAt wc (.agg #[.bool n1, .slice q1 l1.length k1]) zb := ⟨_, _, l1, rfl, x1, w1, by omega, hzb⟩
      have hW : ∀ w', Below wc.heap.size wc w' → Calls Tryd.prog 24 #[.bool n0, .slice p0 l0.length c0] w' (RInt za w') := fun w' hb => by rw [hza]; exact Whole_any n0 _ l0 w' (HD.out.a0.below hb) w0 (by omega)
      have la : sz W za.natAbs ≤ 549755813888 := by rw [hza, sg_natAbs]; exact Nat.le_trans (sz_val (by simp [W]) w0) (by omega)
      have lb : sz W zb.natAbs ≤ 549755813888 := by rw [hzb, sg_natAbs]; exact Nat.le_trans (sz_val (by simp [W]) w1) (by omega)
      have HRA := hid RA; have HRB := hid RB; have HRX := hid RX; have HRY := hid RY; have HW := hid hW; have Hbw := hid bw3; have Hx0 := hid x0; have Hx1 := hid x1; have Hla := hid la; have Hlb := hid lb
      clear RA RB RX RY hW bw3 x0 x1 hza hzb hg5 hg6 A0 A1 HT2 H0 H1 bw2 w0 w1 la lb
      have HDa0 := hid HD.out.a0; have HDa1 := hid HD.out.a1
      have hk := HS.out wc (Below.refl _ _)
      go_split_ands
      go_wp2_with fail
      by_cases hzb : zb = 0
      · have RB0 := hid (hzb ▸ HRB.out)
        have RY0 := hid (hzb ▸ HRY.out)
        refine (Div_zero _ _ za wc HRX.out RY0.out).mono ?_
        rintro e w3 ⟨vq, vr, rfl, hq, hr, hb⟩
        have hq := hq.noughts
        obtain ⟨pq, cq, rfl⟩ := hq
        have hr := hr.noughts
        obtain ⟨pr, cr, rfl⟩ := hr
        have HB3 := hid (show Below wc.heap.size wc w3 from hb)
        clear hb
        go_upto_region 7 with fail
        generalize hW : World.alloc (World.alloc w3 _) _ = W4
        have X4 : Below w3.heap.size w3 W4 ∧ Two W4 w3.heap.size (.bool false) (.slice pq 0 cq) (.bool false) (.slice pr 0 cr) := by
          rw [← hW]; exact ⟨Below.two (Below.refl _ _) _ _, Two.new ..⟩
        have HB4 := hid (Below.go X4.1 HB3.out)
        have Q4 := hid X4.2
        clear hW X4
        obtain ⟨gq, hgq⟩ : ∃ g, g = w3.heap.size := ⟨_, rfl⟩
        rw [← hgq] at Q4 ⊢
        clear hgq
        have hk := HS.out _ HB4.out
        go_split_ands
        have HS7 : Hid (∀ w', Below W4.heap.size W4 w' → w'.cell? ⟨w.heap.size, 0, none⟩ = some (.bool n0) ∧ w'.cell? ⟨w.heap.size, 1, none⟩ = some (.slice p0 l0.length c0) ∧ w'.cell? ⟨w.heap.size + 1, 0, none⟩ = some (.bool n1) ∧ w'.cell? ⟨w.heap.size + 1, 1, none⟩ = some (.slice p1 l1.length c1) ∧ w'.cell? ⟨g5, 0, none⟩ = some (.bool n0) ∧ w'.cell? ⟨g5, 1, none⟩ = some (.slice q0 l0.length k0) ∧ w'.cell? ⟨g6, 0, none⟩ = some (.bool n1) ∧ w'.cell? ⟨g6, 1, none⟩ = some (.slice q1 l1.length k1) ∧ Below wc.heap.size wc w' ∧ Below W4.heap.size W4 w') := fun w' hb => by
          have h := HS.out w' (Below.go hb HB4.out)
          go_split_ands
          exact ⟨by assumption, by assumption, by assumption, by assumption, by assumption, by assumption, by assumption, by assumption, by assumption, hb⟩
        go_region_held3 (fun w' => w'.cell? ⟨w.heap.size, 0, none⟩ = some (.bool n0) ∧ w'.cell? ⟨w.heap.size, 1, none⟩ = some (.slice p0 l0.length c0) ∧ w'.cell? ⟨w.heap.size + 1, 0, none⟩ = some (.bool n1) ∧ w'.cell? ⟨w.heap.size + 1, 1, none⟩ = some (.slice p1 l1.length c1) ∧ w'.cell? ⟨g5, 0, none⟩ = some (.bool n0) ∧ w'.cell? ⟨g5, 1, none⟩ = some (.slice q0 l0.length k0) ∧ w'.cell? ⟨g6, 0, none⟩ = some (.bool n1) ∧ w'.cell? ⟨g6, 1, none⟩ = some (.slice q1 l1.length k1) ∧ Below wc.heap.size wc w' ∧ Below W4.heap.size W4 w')
          (first | exact HS7.out _ (Below.drew (Below.refl _ _)) | (refine HS7.out _ (Below.go hb ?_); go_split_ands; assumption))
          (first
            | (go_at_call 26; refine (Mul_any _ _ za zb _ (HRX.out.below (by go_split_ands; assumption)) (HRY.out.below (by go_split_ands; assumption)) Hla.out Hlb.out).mono ?_; rintro e wa ⟨v1, rfl, i1, hb⟩)
            | (go_at_call 27; refine (RMul_any _ _ za zb _ (HRA.out.below (by go_split_ands; assumption)) (HRB.out.below (by go_split_ands; assumption)) Hla.out Hlb.out).mono ?_; rintro e wa ⟨v2, rfl, i2, hb⟩; have j1 := i1.below hb; clear i1)
            | (go_at_call 28; refine (Gcd_any _ _ za zb _ (HRX.out.below (by go_split_ands; assumption)) (HRY.out.below (by go_split_ands; assumption))).mono ?_; rintro e wa ⟨v1, rfl, i1, hb⟩)
            | (go_at_call 29; refine (RGcd_any _ _ za zb _ (HRA.out.below (by go_split_ands; assumption)) (HRB.out.below (by go_split_ands; assumption)) Hla.out Hlb.out).mono ?_; rintro e wa ⟨v2, rfl, i2, hb⟩; have j1 := i1.below hb; clear i1)
            | (go_at_call_of 12 (q0); refine (SameInt_raw n0 n0 _ _ l0 l0 _ (Hx0.out.below (by go_split_ands; assumption)) (HDa0.out.below (by go_split_ands; assumption)) rfl rfl).mono ?_; rintro e wa ⟨rfl, hb⟩)
            | (go_at_call_of 12 (q1); refine (SameInt_raw n1 n1 _ _ l1 l1 _ (Hx1.out.below (by go_split_ands; assumption)) (HDa1.out.below (by go_split_ands; assumption)) rfl rfl).mono ?_; rintro e wb ⟨rfl, hb⟩)
            | (go_at_call 12; refine (SameInt_same _ _ _ _ j1 i2).mono ?_; rintro e wa ⟨rfl, hb⟩; clear j1 i2))
        rename_i hHeld
        go_split_ands
        have HB7 := hid (show Below wc.heap.size wc wb by assumption)
        have B47 := hid (show Below W4.heap.size W4 wb by assumption)
        have hsg := RSign_any _ 0 wb (RB0.out.below HB7.out)
        rw [Int.sign_zero] at hsg
        have Hsg := hid hsg
        clear hsg
        go_wp2_with fail
        refine Hsg.out.mono ?_
        rintro e w8 ⟨rfl, hb8⟩
        have HB8 := hid (Below.go hb8 HB7.out)
        have hQ8 := (Q4.out.below B47.out).below hb8
        have x1 := hQ8.c01; have x2 := hQ8.c11
        clear hb8 hQ8
        go_wp2_with fail
        go_ret
        exact ⟨rfl, Hbw.out.trans (HB8.out.mono (Hbw.out.size))⟩
      · refine (Div_any _ _ za zb wc HRX.out HRY.out hzb).mono ?_
        rintro e w3 ⟨vq, vr, rfl, hq, hr, hb⟩
        have hq := hq.parts
        obtain ⟨dq, pq, nq, cq, rfl, hq⟩ := hq
        have hr := hr.parts
        obtain ⟨dr, pr, nr, cr, rfl, hr⟩ := hr
        have HB3 := hid (show Below wc.heap.size wc w3 from hb)
        clear hb
        go_upto_region 7 with fail
        generalize hW : World.alloc (World.alloc w3 _) _ = W4
        have X4 : Below w3.heap.size w3 W4 ∧ Two W4 w3.heap.size (.bool dq) (.slice pq nq cq) (.bool dr) (.slice pr nr cr) := by
          rw [← hW]; exact ⟨Below.two (Below.refl _ _) _ _, Two.new ..⟩
        have HB4 := hid (Below.go X4.1 HB3.out)
        have Q4 := hid X4.2
        have hq4 := hid (hq.below X4.1)
        have hr4 := hid (hr.below X4.1)
        clear hW X4 hq hr
        obtain ⟨gq, hgq⟩ : ∃ g, g = w3.heap.size := ⟨_, rfl⟩
        rw [← hgq] at Q4 ⊢
        clear hgq
        have hk := HS.out _ HB4.out
        go_split_ands
        have HS7 : Hid (∀ w', Below W4.heap.size W4 w' → w'.cell? ⟨w.heap.size, 0, none⟩ = some (.bool n0) ∧ w'.cell? ⟨w.heap.size, 1, none⟩ = some (.slice p0 l0.length c0) ∧ w'.cell? ⟨w.heap.size + 1, 0, none⟩ = some (.bool n1) ∧ w'.cell? ⟨w.heap.size + 1, 1, none⟩ = some (.slice p1 l1.length c1) ∧ w'.cell? ⟨g5, 0, none⟩ = some (.bool n0) ∧ w'.cell? ⟨g5, 1, none⟩ = some (.slice q0 l0.length k0) ∧ w'.cell? ⟨g6, 0, none⟩ = some (.bool n1) ∧ w'.cell? ⟨g6, 1, none⟩ = some (.slice q1 l1.length k1) ∧ Below wc.heap.size wc w' ∧ Below W4.heap.size W4 w') := fun w' hb => by
          have h := HS.out w' (Below.go hb HB4.out)
          go_split_ands
          exact ⟨by assumption, by assumption, by assumption, by assumption, by assumption, by assumption, by assumption, by assumption, by assumption, hb⟩
        go_region_held3 (fun w' => w'.cell? ⟨w.heap.size, 0, none⟩ = some (.bool n0) ∧ w'.cell? ⟨w.heap.size, 1, none⟩ = some (.slice p0 l0.length c0) ∧ w'.cell? ⟨w.heap.size + 1, 0, none⟩ = some (.bool n1) ∧ w'.cell? ⟨w.heap.size + 1, 1, none⟩ = some (.slice p1 l1.length c1) ∧ w'.cell? ⟨g5, 0, none⟩ = some (.bool n0) ∧ w'.cell? ⟨g5, 1, none⟩ = some (.slice q0 l0.length k0) ∧ w'.cell? ⟨g6, 0, none⟩ = some (.bool n1) ∧ w'.cell? ⟨g6, 1, none⟩ = some (.slice q1 l1.length k1) ∧ Below wc.heap.size wc w' ∧ Below W4.heap.size W4 w')
          (first | exact HS7.out _ (Below.drew (Below.refl _ _)) | (refine HS7.out _ (Below.go hb ?_); go_split_ands; assumption))
          (first
            | (go_at_call 26; refine (Mul_any _ _ za zb _ (HRX.out.below (by go_split_ands; assumption)) (HRY.out.below (by go_split_ands; assumption)) Hla.out Hlb.out).mono ?_; rintro e wa ⟨v1, rfl, i1, hb⟩)
            | (go_at_call 27; refine (RMul_any _ _ za zb _ (HRA.out.below (by go_split_ands; assumption)) (HRB.out.below (by go_split_ands; assumption)) Hla.out Hlb.out).mono ?_; rintro e wa ⟨v2, rfl, i2, hb⟩; have j1 := i1.below hb; clear i1)
            | (go_at_call 28; refine (Gcd_any _ _ za zb _ (HRX.out.below (by go_split_ands; assumption)) (HRY.out.below (by go_split_ands; assumption))).mono ?_; rintro e wa ⟨v1, rfl, i1, hb⟩)
            | (go_at_call 29; refine (RGcd_any _ _ za zb _ (HRA.out.below (by go_split_ands; assumption)) (HRB.out.below (by go_split_ands; assumption)) Hla.out Hlb.out).mono ?_; rintro e wa ⟨v2, rfl, i2, hb⟩; have j1 := i1.below hb; clear i1)
            | (go_at_call_of 12 (q0); refine (SameInt_raw n0 n0 _ _ l0 l0 _ (Hx0.out.below (by go_split_ands; assumption)) (HDa0.out.below (by go_split_ands; assumption)) rfl rfl).mono ?_; rintro e wa ⟨rfl, hb⟩)
            | (go_at_call_of 12 (q1); refine (SameInt_raw n1 n1 _ _ l1 l1 _ (Hx1.out.below (by go_split_ands; assumption)) (HDa1.out.below (by go_split_ands; assumption)) rfl rfl).mono ?_; rintro e wb ⟨rfl, hb⟩)
            | (go_at_call 12; refine (SameInt_same _ _ _ _ j1 i2).mono ?_; rintro e wa ⟨rfl, hb⟩; clear j1 i2))
        rename_i hHeld
        go_split_ands
        have HB7 := hid (show Below wc.heap.size wc wb by assumption)
        have B47 := hid (show Below W4.heap.size W4 wb by assumption)
        have hsz : (zb.sign == 0) = false := beq_eq_false_iff_ne.2 (fun e => hzb (Int.sign_eq_zero_iff_zero.1 e))
        go_wp2_with fail
        refine (RSign_any _ zb wb (HRB.out.below HB7.out)).mono ?_
        rintro e w8 ⟨rfl, hb8⟩
        have HB8 := hid (Below.go hb8 HB7.out)
        have B48 := hid (Below.go hb8 B47.out)
        have hk := HS.out _ HB8.out
        clear hb8
        go_split_ands
        go_wp2_with fail
        refine (RDiv_any _ _ za zb _ (HRA.out.below HB8.out) (HRB.out.below HB8.out) hzb Hla.out Hlb.out).mono ?_
        rintro e w9 ⟨vu, vv, rfl, hu, hv, hb9⟩
        have hu := hu.parts
        obtain ⟨du, pu, nu, cu, rfl, hu⟩ := hu
        have hv := hv.parts
        obtain ⟨dv, pv, nv, cv, rfl, hv⟩ := hv
        have HB9 := hid (Below.go hb9 HB8.out)
        have B49 := hid (Below.go hb9 B48.out)
        have hk := HS.out _ HB9.out
        clear hb9
        go_split_ands
        go_upto_region 12 with fail
        generalize hW : World.alloc (World.alloc w9 _) _ = W10
        have X10 : Below w9.heap.size w9 W10 ∧ Two W10 w9.heap.size (.bool du) (.slice pu nu cu) (.bool dv) (.slice pv nv cv) := by
          rw [← hW]; exact ⟨Below.two (Below.refl _ _) _ _, Two.new ..⟩
        have HB10 := hid (Below.go X10.1 HB9.out)
        have B410 := hid (Below.go X10.1 B49.out)
        have U10 := hid X10.2
        have hu10 := hid (hu.below X10.1)
        have hv10 := hid (hv.below X10.1)
        clear hW X10 hu hv
        obtain ⟨gu, hgu⟩ : ∃ g, g = w9.heap.size := ⟨_, rfl⟩
        rw [← hgu] at U10 ⊢
        clear hgu
        have Q10 := hid (Q4.out.below B410.out)
        have x1 := Q10.out.c00; have x2 := Q10.out.c01; have x3 := U10.out.c00; have x4 := U10.out.c01
        go_wp2_with fail
        refine (SameInt_same _ _ _ _ (IntAt.below hq4.out B410.out) hu10.out).mono ?_
        rintro e w11 ⟨rfl, hb11⟩
        have HB11 := hid (Below.go hb11 HB10.out)
        have B411 := hid (Below.go hb11 B410.out)
        have hv11 := hid (IntAt.below hv10.out hb11)
        have Q11 := Q10.out.below hb11
        have U11 := U10.out.below hb11
        clear x1 x2 x3 x4 hb11
        have x1 := Q11.c10; have x2 := Q11.c11; have x3 := U11.c10; have x4 := U11.c11
        clear Q11 U11
        go_wp2_with fail
        refine (SameInt_same _ _ _ _ (IntAt.below hr4.out B411.out) hv11.out).mono ?_
        rintro e w12 ⟨rfl, hb12⟩
        have HB12 := hid (Below.go hb12 HB11.out)
        clear hb12
        go_wp2_with fail
        go_ret
        exact ⟨rfl, Hbw.out.trans (HB12.out.mono (Hbw.out.size))⟩
  · rw [decide_eq_false hsm] at Hfew
    clear hsm
    go_wp2_with fail
    refine Hfew.out.mono ?_
    rintro e u2 ⟨rfl, d2⟩
    have bw2 := hid (bw.out.trans (((below1 _ _).trans (d2.mono (B' := u1.heap.size) (by simp))).mono (B' := w.heap.size) (by omega)))
    clear d2 HT t00 t01 t10 t11 tz bw Hfew
    go_wp2_with fail
    go_ret
    exact ⟨rfl, bw2.out⟩
end Go.Proofs.YtlicmnlllappnaaDoor
/- A number that comes in as data: a bool and a slice of words; how it reads. -/
namespace Go.Proofs.YtlicmnlllappnaaDoor
open Go.ChangeShapes Go.WideShapes Go.ChangeAt Go.RowKit Go.Deep Go.Joins Big

theorem laidOut : laidOutB Tryd.prog = true := by kernel_rfl
theorem fieldsInt : ∃ f0 f1 : Field, Tryd.prog.underlying 25 = some (.struct #[f0, f1]) ∧ oneCellFields Tryd.prog #[f0, f1] = true ∧ f0.type = 4 ∧ f1.type = 23 := ⟨_, _, Tryd.underlying25, by kernel_rfl, rfl, rfl⟩
theorem cellsInt : Tryd.prog.cellsOf 25 = 2 := by kernel_rfl
theorem cellsU64 : Tryd.prog.cellsOf 59 = 1 := by kernel_rfl

section
variable {H : Type} {enc : TypeId × Value → H} {w : World} {base : Nat} {spare : Nat → Bool} {held : Bool}
theorem wf_u64 {n : Int} (h : (Lit.int .u64 n).wf = true) : 0 ≤ n ∧ n < (W : Int) := by
  have h' : (decide (IntKind.u64.min ≤ n) && decide (n ≤ IntKind.u64.max)) = true := h
  have e1 : IntKind.u64.min = 0 := by decide
  have e2 : IntKind.u64.max = 18446744073709551615 := by decide
  rw [e1, e2] at h'
  simp only [Bool.and_eq_true, decide_eq_true_eq] at h'
  unfold W
  omega
/-- a slice of words that comes in -/
theorem open_nat {fuel : Nat} {v : Value} {y : DataW H × List MemPlace} (h : DataW.trod enc Tryd.prog w base spare held fuel 23 [v] = some y) : ∃ l, At w .u64 v l ∧ Small W l := by
  rcases open_ints Tryd.underlying23 Tryd.underlying59 cellsU64 h with ⟨hv, -⟩ | ⟨a, len, cap, zs, hv, hb, hl, hm, hz, -, hc, hwf⟩
  · obtain rfl : v = .slice none 0 0 := by simpa using hv
    exact ⟨[], At.nil w .u64, fun n hn => by cases hn⟩
  · obtain rfl : v = .slice (some a) len cap := by simpa using hv
    have hlz : len ≤ zs.length := by rw [hz]; split <;> omega
    refine ⟨(zs.take len).map Int.toNat, ?_, ?_⟩
    · have e : ((zs.take len).map Int.toNat).length = len := by simp [Nat.min_eq_left hlz]
      refine ⟨some a, cap, by rw [e], by rw [e]; exact hl, hm, nofun, fun h0 => ?_⟩
      rw [e] at h0
      have hs := hc 0 (by omega)
      obtain ⟨b, off, spot⟩ := a
      cases spot with
      | some x =>
        exfalso
        revert hs
        unfold World.cell? Addr.add
        split <;> simp
      | none =>
        refine ⟨b, off, rfl, ?_, fun i hi => ?_⟩
        · exact World.block_lt_of_cell? w _ hs
        · rw [e] at hi
          have hci := hc i (by omega)
          have hw := wf_u64 (hwf _ (List.getElem_mem (n := i) (l := zs) (by omega)))
          rw [add_plain] at hci
          rw [hci]
          have hg : zs.getD i 0 = zs[i]'(by omega) := by simp [List.getD, show i < zs.length by omega]
          rw [hg]
          simp only [List.getElem_map, List.getElem_take]
          congr 2
          omega
    · intro n hn
      obtain ⟨x, hx, rfl⟩ := List.mem_map.1 hn
      have hw := wf_u64 (hwf x (List.mem_of_mem_take hx))
      omega
set_option maxRecDepth 100000 in
/-- a number that comes in -/
theorem open_num {r : Reach} {b0 : Nat} {v : Value} {d : DataW H} {p : List MemPlace} (hv : Value.okWide Tryd.prog w r b0 25 v) (h : DataW.Trod enc Tryd.prog w base spare held 25 v d p) :
    ∃ neg s l, v = .agg #[.bool neg, s] ∧ At w .u64 s l ∧ Small W l := by
  obtain ⟨f0, f1, hs, hone, e0, e1⟩ := fieldsInt
  obtain ⟨v0, v1, y0, y1, n, rfl, -, -, h0, h1⟩ := open_agg2 hs hone cellsInt hv h
  rw [e0] at h0
  rw [e1] at h1
  obtain ⟨b, hb, -⟩ := DataW.trod_bool Tryd.underlying4 h0
  obtain ⟨l, ha, hl⟩ := open_nat h1
  obtain rfl : v0 = .bool b := by simpa using hb
  exact ⟨b, v1, l, rfl, ha, hl⟩
end
end Go.Proofs.YtlicmnlllappnaaDoor
/- The package-level tables that the rows list, as start-up lays them; a world that holds them. -/
namespace Go.Proofs.YtlicmnlllappnaaDoor
open Go.ChangeShapes Go.WideShapes Go.ChangeAt Go.RowKit

theorem own : ownKnob Tryd.prog.godebug = none := by kernel_rfl
def tabPow : Array Value := #[.int .u64 1, .int .u64 10, .int .u64 100, .int .u64 1000, .int .u64 10000, .int .u64 100000, .int .u64 1000000, .int .u64 10000000, .int .u64 100000000, .int .u64 1000000000, .int .u64 10000000000, .int .u64 100000000000, .int .u64 1000000000000, .int .u64 10000000000000, .int .u64 100000000000000, .int .u64 1000000000000000, .int .u64 10000000000000000, .int .u64 100000000000000000, .int .u64 1000000000000000000, .int .u64 10000000000000000000]
def tab32 : Array Value := #[.int .u8 0, .int .u8 1, .int .u8 28, .int .u8 2, .int .u8 29, .int .u8 14, .int .u8 24, .int .u8 3, .int .u8 30, .int .u8 22, .int .u8 20, .int .u8 15, .int .u8 25, .int .u8 17, .int .u8 4, .int .u8 8, .int .u8 31, .int .u8 27, .int .u8 13, .int .u8 23, .int .u8 21, .int .u8 19, .int .u8 16, .int .u8 7, .int .u8 26, .int .u8 12, .int .u8 18, .int .u8 6, .int .u8 11, .int .u8 5, .int .u8 10, .int .u8 9]
def tab64 : Array Value := #[.int .u8 0, .int .u8 1, .int .u8 56, .int .u8 2, .int .u8 57, .int .u8 49, .int .u8 28, .int .u8 3, .int .u8 61, .int .u8 58, .int .u8 42, .int .u8 50, .int .u8 38, .int .u8 29, .int .u8 17, .int .u8 4, .int .u8 62, .int .u8 47, .int .u8 59, .int .u8 36, .int .u8 45, .int .u8 43, .int .u8 51, .int .u8 22, .int .u8 53, .int .u8 39, .int .u8 33, .int .u8 30, .int .u8 24, .int .u8 18, .int .u8 12, .int .u8 5, .int .u8 63, .int .u8 55, .int .u8 48, .int .u8 27, .int .u8 60, .int .u8 41, .int .u8 37, .int .u8 16, .int .u8 46, .int .u8 35, .int .u8 44, .int .u8 21, .int .u8 52, .int .u8 32, .int .u8 23, .int .u8 11, .int .u8 54, .int .u8 26, .int .u8 40, .int .u8 15, .int .u8 34, .int .u8 20, .int .u8 31, .int .u8 10, .int .u8 25, .int .u8 14, .int .u8 19, .int .u8 9, .int .u8 13, .int .u8 8, .int .u8 7, .int .u8 6]
/-- the object that block k holds behind start-up -/
def laidObj (k : Nat) (o : Obj) : Obj :=
  match o with
  | .cells c t frozen => if k = 0 then .cells tabPow t frozen else if k = 2 then .cells tab32 t frozen else if k = 3 then .cells tab64 t frozen else .cells c t frozen
  | o => o
noncomputable def laidWorld (os : Os) : World :=
  { World.holding Tryd.prog os ⟨#[], #[], []⟩ with heap := (((World.holding Tryd.prog os ⟨#[], #[], []⟩).heap.modify 0 (laidObj 0)).modify 2 (laidObj 2)).modify 3 (laidObj 3) }
end Go.Proofs.YtlicmnlllappnaaDoor
