/- Texts put together: MkNum2, MkWhole, MkBool, MkRows, VlModel, VlREval, PlChecks, VlEvals, VlMkLaw, VlOpp, VlLawOpposes, MkOpen, Laid. -/
import Derived.Test.YtckkpolikdnilaaGreatDoorValueOpposesCardM5
import Derived.Deep.DeepCutAuto
import Derived.Deep.RegionHeld3
import Derived.Test.YtckkpolikdnilaaGreatDoorCards
import Derived.Test.YtckkpolikdnilaaGreatDoorTie
import Derived.WalkKit
import Derived.ProofKit
import Derived.OpenShut
import Derived.Deep.DeepHandedRow
import Derived.Lib.LaidTab
/- elenchusmake's numbers once more: nothing but the tape has turned (made out of XMkNum by gen_mknum2.py). -/
namespace Go.Proofs.YtckkpolikdnilaaGreatDoor
open Go.RowKit Big Go.WideMaps

set_option maxRecDepth 100000 in
set_option maxHeartbeats 6400000 in
theorem Num_apart {W0 w : World} {t : Nat} {v : Value} {l : List Nat} (h : TpIn W0 w t v l) :
    Calls Tryz.prog 62 #[.pointer (some ⟨t, 0, none⟩)] w (fun e w' => ∃ u z, e = .returned u ∧ IntAt w' u z ∧ sz W z.natAbs ≤ 8 ∧ TpIn W0 w' t v l ∧ Apart (fun i => i = t) w w') := by
  have b0 := below1 w (.cells #[.bool false, .slice none 0 0] 44)
  have hr0 := heap_alloc_new w (.cells #[.bool false, .slice none 0 0] 44)
  have hz0 := size_alloc w (.cells #[.bool false, .slice none 0 0] 44)
  have htl := h.2.2.2.2.lt
  have htW := h.2.2.1
  have hWw := h.2.2.2.1.size
  have H1 := hid (h.go b0)
  have F1 := hid (Apart.of_below (S := fun i => i = t) b0)
  clear h b0
  go_enter Tryz.func62, Tryz.ntmps62
  go_wp2_with fail
  generalize hW : (w.alloc (.cells #[.bool false, .slice none 0 0] 44)) = W1 at *
  clear hW
  refine (Next_in 9 H1.out (by decide)).mono ?_
  rintro e w1 ⟨k, rfl, hk, h1, hA1⟩
  have hk9 : (k : Int) < 9 := by omega
  have hr1 := (hA1.block w.heap.size (by omega) (by omega)).trans hr0
  have F2 := hid (F1.out.go hA1)
  have H2 := hid h1
  have hz1 := hA1.size
  clear hA1 h1 hr0 hk F1 H1
  go_wp2_with fail
  refine (ROf_any ((k : Int) - 4) w1 (by omega) (by omega)).mono ?_
  rintro e w2 ⟨u, rfl, i2, b2⟩
  obtain ⟨p2, n2, c2, rfl, i2⟩ := i2.shape
  have hr2 := (b2.block w.heap.size (by omega)).trans hr1
  have hz2 := b2.size
  have b3 := below1 w2 (.cells #[.bool (decide ((k : Int) - 4 < 0)), .slice p2 n2 c2] 44)
  have x3 := BoxAt.new i2
  have hz3 := size_alloc w2 (.cells #[.bool (decide ((k : Int) - 4 < 0)), .slice p2 n2 c2] 44)
  have hr3 := (b3.block w.heap.size (by omega)).trans hr2
  have H3 := hid ((H2.out.go b2).go b3)
  have F3 := hid (F2.out.go (Apart.of_below (S := fun i => i = t) (bel_go b3 b2)))
  have X3 := hid x3; have R3 := hid hr3
  have hsz : sz W ((k : Int) - 4).natAbs ≤ 1 := sz_le_of_lt W2 (by unfold W; omega)
  clear hr1 hr2 x3 hr3 i2 b2 b3 F2 H2
  go_wp2_with fail
  generalize hW : (w2.alloc (.cells #[.bool (decide ((k : Int) - 4 < 0)), .slice p2 n2 c2] 44)) = W3 at *
  clear hW
  refine (Next_in 12 H3.out (by decide)).mono ?_
  rintro e w4 ⟨k2, rfl, hk2, h4, hA4⟩
  have hk12 : (k2 : Int) < 12 := by omega
  have X4 := hid (H3.out.box X3.out (by omega) hA4)
  have R4 := hid ((hA4.block w.heap.size (by omega) (by omega)).trans R3.out)
  have F4 := hid (F3.out.go hA4)
  have H4 := hid h4
  have hz4 := hA4.size
  clear hA4 h4 hk2 F3 H3 X3 R3
  have fin : ∀ (wf : World) (z : Int), sz W z.natAbs ≤ 8 → BoxAt wf w2.heap.size z → wf.heap[w.heap.size]? = some (.cells #[.bool false, .slice none 0 0] 44 (0, 0)) → TpIn W0 wf t v l → Apart (fun i => i = t) w wf →
      ∃ p n c, wf.cell? ⟨w2.heap.size, 0, none⟩ = some (.bool (decide (z < 0))) ∧ wf.cell? ⟨w2.heap.size, 1, none⟩ = some (.slice p n c) ∧ wf.cell? ⟨w.heap.size, 0, none⟩ = some (.bool false) ∧ wf.cell? ⟨w.heap.size, 1, none⟩ = some (.slice none 0 0) ∧ wf.frozen? ⟨w.heap.size, 0, none⟩ = false ∧ wf.frozen? ⟨w.heap.size, 1, none⟩ = false ∧
        ((wf.setCell ⟨w.heap.size, 0, none⟩ (.bool (decide (z < 0)))).setCell ⟨w.heap.size, 1, none⟩ (.slice p n c)).cell? ⟨w.heap.size, 0, none⟩ = some (.bool (decide (z < 0))) ∧ ((wf.setCell ⟨w.heap.size, 0, none⟩ (.bool (decide (z < 0)))).setCell ⟨w.heap.size, 1, none⟩ (.slice p n c)).cell? ⟨w.heap.size, 1, none⟩ = some (.slice p n c) ∧
        ∃ u z', u = .agg #[.bool (decide (z < 0)), .slice p n c] ∧ IntAt ((wf.setCell ⟨w.heap.size, 0, none⟩ (.bool (decide (z < 0)))).setCell ⟨w.heap.size, 1, none⟩ (.slice p n c)) u z' ∧ sz W z'.natAbs ≤ 8 ∧ TpIn W0 ((wf.setCell ⟨w.heap.size, 0, none⟩ (.bool (decide (z < 0)))).setCell ⟨w.heap.size, 1, none⟩ (.slice p n c)) t v l ∧ Apart (fun i => i = t) w ((wf.setCell ⟨w.heap.size, 0, none⟩ (.bool (decide (z < 0)))).setCell ⟨w.heap.size, 1, none⟩ (.slice p n c)) := by
    intro wf z hz ⟨p, n, c, x1, x2⟩ hr ht hf
    obtain ⟨q0, q1, -, -⟩ := two_cells x1
    obtain ⟨r0, r1, f0, f1⟩ := two_cells hr
    obtain ⟨s0, s1, -, -⟩ := two_cells (set2_same hr (.bool (decide (z < 0))) (.slice p n c))
    obtain ⟨sx, hsx, ha⟩ := x2
    have hsx : sx = .slice p n c := by simpa using hsx.symm
    subst hsx
    have e1 : (wf.setCell ⟨w.heap.size, 0, none⟩ (.bool (decide (z < 0)))).heap[w.heap.size]? = some (.cells #[.bool (decide (z < 0)), .slice none 0 0] 44 (0, 0)) := by simpa using heap_setCell_same wf w.heap.size 0 _ _ (.bool (decide (z < 0))) hr
    exact ⟨p, n, c, q0, q1, r0, r1, f0, f1, s0, s1, _, z, rfl, ⟨_, rfl, (ha.offRec hr (by simp [noWord]) 0 _).offRec e1 (by simp [noWord]) 1 _⟩, hz, (ht.set (p := ⟨w.heap.size, 0, none⟩) hWw (by show w.heap.size ≠ t; omega) _).set (p := ⟨w.heap.size, 1, none⟩) hWw (by show w.heap.size ≠ t; omega) _, (hf.setNew (q := ⟨w.heap.size, 0, none⟩) (Nat.le_refl _) _).setNew (q := ⟨w.heap.size, 1, none⟩) (Nat.le_refl _) _⟩
  have Fin := hid fin
  clear fin
  by_cases hc : k2 = 1
  case neg =>
    have hc1 : ((k2 : Int) == 1) = false := by simp; omega
    have hc2 : (k2 == 1) = false := by simp; omega
    obtain ⟨p, n, c, q0, q1, r0, r1, f0, f1, s0, s1, hfin⟩ := Fin.out w4 _ (by omega) X4.out R4.out H4.out F4.out
    have Hf := hid hfin
    clear hfin
    go_wp2
    refine bodyPost_ret (v := .agg #[.bool (decide ((k : Int) - 4 < 0)), .slice p n c]) (by simp [results, Tryz.results62, go_sem, s0, s1]) rfl ?_
    obtain ⟨u, z', rfl, h⟩ := Hf.out
    exact ⟨_, z', rfl, h⟩
  case pos =>
    subst hc
    go_wp2_with fail
    refine (ROf_any 1000000007 w4 (by omega) (by omega)).mono ?_
    rintro e w5 ⟨u5, rfl, i5, b5⟩
    obtain ⟨p5, n5, c5, rfl, i5⟩ := i5.shape
    have X5 := hid (X4.out.go b5)
    have R5 := hid ((b5.block w.heap.size (by omega)).trans R4.out)
    have F5 := hid (F4.out.go (Apart.of_below (S := fun i => i = t) b5))
    have H5 := hid (H4.out.go b5)
    have I5 := hid i5
    have hz5 := b5.size
    clear b5 i5 X4 R4 F4 H4
    go_wp2_with fail
    refine (Next_in 200 H5.out (by decide)).mono ?_
    rintro e w6 ⟨k6, rfl, hk6, h6, hA6⟩
    have hk200 : (k6 : Int) < 200 := by omega
    have X6 := hid (H5.out.box X5.out (by omega) hA6)
    have R6 := hid ((hA6.block w.heap.size (by omega) (by omega)).trans R5.out)
    have F6 := hid (F5.out.go hA6)
    have I6 := hid (H5.out.int I5.out hA6)
    have H6 := hid h6
    have hz6 := hA6.size
    clear hA6 h6 hk6 X5 R5 F5 H5 I5
    go_wp2_with fail
    refine (ROf_any ((k6 : Int) - 100) w6 (by omega) (by omega)).mono ?_
    rintro e w7 ⟨u7, rfl, i7, b7⟩
    obtain ⟨p7, n7, c7, rfl, i7⟩ := i7.shape
    have s5 : sz W (1000000007 : Int).natAbs ≤ 1 := sz_le_of_lt W2 (by unfold W; decide)
    have s7 : sz W ((k6 : Int) - 100).natAbs ≤ 1 := sz_le_of_lt W2 (by unfold W; omega)
    have Hm8 := hid (RMul_any _ _ 1000000007 ((k6 : Int) - 100) w7 ((I6.out.below' b7).raw (by omega)) (i7.raw (by omega)) (by omega) (by omega))
    have X7 := hid (X6.out.go b7)
    have R7 := hid ((b7.block w.heap.size (by omega)).trans R6.out)
    have F7 := hid (F6.out.go (Apart.of_below (S := fun i => i = t) b7))
    have H7 := hid (H6.out.go b7)
    have hz7 := b7.size
    clear b7 i7 X6 R6 F6 H6 I6
    go_wp2_with fail
    refine Hm8.out.mono ?_
    rintro e w8 ⟨u8, rfl, i8, b8⟩
    obtain ⟨z8, hz8⟩ : ∃ z8 : Int, z8 = 1000000007 * ((k6 : Int) - 100) := ⟨_, rfl⟩
    rw [← hz8] at i8
    have s8 : sz W z8.natAbs ≤ 1 := sz_le_of_lt W2 (by unfold W; omega)
    obtain ⟨p8, n8, c8, rfl, i8⟩ := i8.shape
    have X8 := hid (X7.out.go b8)
    have R8 := hid ((b8.block w.heap.size (by omega)).trans R7.out)
    have F8 := hid (F7.out.go (Apart.of_below (S := fun i => i = t) b8))
    have H8 := hid (H7.out.go b8)
    have hs8 := b8.size
    clear b8 X7 R7 F7 H7 Hm8 hz8
    have x8 := X8.out
    obtain ⟨p', n', c', x8, -⟩ := x8
    have q := two_cells x8
    obtain ⟨q0, q1, f0, f1⟩ := q
    have hX : w.heap.size ≤ w2.heap.size := by omega
    have X9 := hid (X8.out.set i8)
    have R9 := hid ((Below.heap_setCell (w8.setCell ⟨w2.heap.size, 0, none⟩ (.bool (decide (z8 < 0)))) ⟨w2.heap.size, 1, none⟩ (.slice p8 n8 c8) w.heap.size (by show w.heap.size ≠ w2.heap.size; omega)).trans ((Below.heap_setCell w8 ⟨w2.heap.size, 0, none⟩ (.bool (decide (z8 < 0))) w.heap.size (by show w.heap.size ≠ w2.heap.size; omega)).trans R8.out))
    have F9 := hid ((F8.out.setNew (q := ⟨w2.heap.size, 0, none⟩) hX (.bool (decide (z8 < 0)))).setNew (q := ⟨w2.heap.size, 1, none⟩) hX (.slice p8 n8 c8))
    have H9 := hid ((H8.out.set (p := ⟨w2.heap.size, 0, none⟩) (by show _ ≤ w2.heap.size; omega) (by show w2.heap.size ≠ t; omega) (.bool (decide (z8 < 0)))).set (p := ⟨w2.heap.size, 1, none⟩) (by show _ ≤ w2.heap.size; omega) (by show w2.heap.size ≠ t; omega) (.slice p8 n8 c8))
    have hs9 : w8.heap.size ≤ ((w8.setCell ⟨w2.heap.size, 0, none⟩ (.bool (decide (z8 < 0)))).setCell ⟨w2.heap.size, 1, none⟩ (.slice p8 n8 c8)).heap.size := by simp [World.setCell]
    clear x8 i8 X8 R8 F8 H8
    go_upto_region 4 with fail
    generalize hW : ((w8.setCell ⟨w2.heap.size, 0, none⟩ (.bool (decide (z8 < 0)))).setCell ⟨w2.heap.size, 1, none⟩ (.slice p8 n8 c8)) = w9 at *
    clear hW q0 q1 f0 f1
    have x9 := X9.out
    obtain ⟨p9, n9, c9, x9, i9⟩ := x9
    have q := two_cells x9
    obtain ⟨q0, q1, f0, f1⟩ := q
    have Hm10 := hid (RMul_any _ _ z8 z8 w9 (i9.raw (by omega)) (i9.raw (by omega)) (by omega) (by omega))
    clear x9 i9
    go_wp2_with fail
    refine Hm10.out.mono ?_
    rintro e w10 ⟨u10, rfl, i10, b10⟩
    have s10 : sz W (z8 * z8).natAbs ≤ 8 := by rw [Int.natAbs_mul]; have := sz_mul W2 z8.natAbs z8.natAbs; omega
    generalize z8 * z8 = z10 at *
    obtain ⟨p10, n10, c10, rfl, i10⟩ := i10.shape
    have X10 := hid (X9.out.go b10)
    have R10 := hid ((b10.block w.heap.size (by omega)).trans R9.out)
    have F10 := hid (F9.out.go (Apart.of_below (S := fun i => i = t) b10))
    have H10 := hid (H9.out.go b10)
    have hs10 := b10.size
    clear b10 X9 R9 F9 H9 Hm10 q0 q1 f0 f1
    have x10 := X10.out
    obtain ⟨p', n', c', x10, -⟩ := x10
    have q := two_cells x10
    obtain ⟨q0, q1, f0, f1⟩ := q
    have X11 := hid (X10.out.set i10)
    have R11 := hid ((Below.heap_setCell (w10.setCell ⟨w2.heap.size, 0, none⟩ (.bool (decide (z10 < 0)))) ⟨w2.heap.size, 1, none⟩ (.slice p10 n10 c10) w.heap.size (by show w.heap.size ≠ w2.heap.size; omega)).trans ((Below.heap_setCell w10 ⟨w2.heap.size, 0, none⟩ (.bool (decide (z10 < 0))) w.heap.size (by show w.heap.size ≠ w2.heap.size; omega)).trans R10.out))
    have F11 := hid ((F10.out.setNew (q := ⟨w2.heap.size, 0, none⟩) hX (.bool (decide (z10 < 0)))).setNew (q := ⟨w2.heap.size, 1, none⟩) hX (.slice p10 n10 c10))
    have H11 := hid ((H10.out.set (p := ⟨w2.heap.size, 0, none⟩) (by show _ ≤ w2.heap.size; omega) (by show w2.heap.size ≠ t; omega) (.bool (decide (z10 < 0)))).set (p := ⟨w2.heap.size, 1, none⟩) (by show _ ≤ w2.heap.size; omega) (by show w2.heap.size ≠ t; omega) (.slice p10 n10 c10))
    clear x10 i10 X10 R10 F10 H10
    go_upto_region 5 with fail
    generalize hW : ((w10.setCell ⟨w2.heap.size, 0, none⟩ (.bool (decide (z10 < 0)))).setCell ⟨w2.heap.size, 1, none⟩ (.slice p10 n10 c10)) = w11 at *
    clear hW q0 q1 f0 f1
    obtain ⟨p, n, c, q0, q1, r0, r1, f0, f1, s0, s1, hfin⟩ := Fin.out w11 _ (by omega) X11.out R11.out H11.out F11.out
    have Hf := hid hfin
    clear hfin
    go_wp2
    refine bodyPost_ret (v := .agg #[.bool (decide (z10 < 0)), .slice p n c]) (by simp [results, Tryz.results62, go_sem, s0, s1]) rfl ?_
    obtain ⟨u, z', rfl, h⟩ := Hf.out
    exact ⟨_, z', rfl, h⟩
end Go.Proofs.YtckkpolikdnilaaGreatDoor
/- elenchusmake's Whole and Bool (made by gen_mkwhole.py). -/
namespace Go.Proofs.YtckkpolikdnilaaGreatDoor
open Go.RowKit Big Go.WideMaps

theorem QArg.nil (W0 : World) (X : Nat → Prop) (w : World) : QArg W0 X w (.slice none 0 0) [] := ⟨World.ownsRow_nil _ _ _ _, fun k h => by cases h⟩
theorem MkAt.base {W0 w : World} {X : Nat → Prop} {b t : Nat} {vB : Value} {bs : List Nat} {p : Po} {us : List Int} (h : MkAt W0 X w b t vB bs p us) : W0.heap.size ≤ w.heap.size := by
  obtain ⟨_, _, _, h⟩ := h
  exact h.tp.2.2.2.1.size
theorem MkAt.xlt {W0 w : World} {X : Nat → Prop} {b t : Nat} {vB : Value} {bs : List Nat} {p : Po} {us : List Int} (h : MkAt W0 X w b t vB bs p us) : ∀ k, X k → k < w.heap.size := by
  obtain ⟨_, _, _, h⟩ := h
  exact h.xlt
theorem MkAt.mkp {W0 w : World} {X : Nat → Prop} {b t : Nat} {vB : Value} {bs : List Nat} {p : Po} {us : List Int} (h : MkAt W0 X w b t vB bs p us) : MkP p := by
  obtain ⟨_, _, _, h⟩ := h
  exact h.mkp
theorem MkAt.tp {W0 w : World} {X : Nat → Prop} {b t : Nat} {vB : Value} {bs : List Nat} {p : Po} {us : List Int} (h : MkAt W0 X w b t vB bs p us) : TpIn W0 w t vB bs := by
  obtain ⟨_, _, _, h⟩ := h
  exact h.tp
theorem MkAt.next {W0 w w' : World} {X : Nat → Prop} {b t : Nat} {vB : Value} {bs : List Nat} {p : Po} {us : List Int} (h : MkAt W0 X w b t vB bs p us) (ht : TpIn W0 w' t vB bs) (hA : Apart (fun i => i = t) w w') : MkAt W0 X w' b t vB bs p us := by
  obtain ⟨vs, vr, vy, h⟩ := h
  exact ⟨vs, vr, vy, h.next ht hA⟩
/-- the build's field that holds the tape -/
theorem MkAt.cell2 {W0 w : World} {X : Nat → Prop} {b t : Nat} {vB : Value} {bs : List Nat} {p : Po} {us : List Int} (h : MkAt W0 X w b t vB bs p us) : w.cell? ⟨b, 2, none⟩ = some (.pointer (some ⟨t, 0, none⟩)) := by
  obtain ⟨_, _, _, h⟩ := h
  exact (four_cells h.cell).2.2.1
/-- a row of parts, just made -/
theorem QArg.new {W0 w : World} {X : Nat → Prop} (hb : W0.heap.size ≤ w.heap.size) (hx : ∀ k, X k → k < w.heap.size) (l : List Int) (c : Array Value) (hc : c = (zints l).toArray) (n : Nat) (hn : n = l.length) (hm : l.length ≤ 100) : QArg W0 X (w.alloc (.cells c 3)) (.slice (some ⟨w.heap.size, 0, none⟩) n n) l := by
  subst hn hc
  exact ⟨⟨by simp [zints], .inr ⟨w.heap.size, l.length, (zints l).toArray, rfl, hb, heap_alloc_new w _, Nat.le_refl _, by simp [maxLen]; omega, by simp [zints], by simp [zints]; exact List.take_of_length_le (by simp)⟩⟩, fun k hk h => by
    have hk : w.heap.size = k := Option.some.inj hk
    have := hx k h
    omega⟩
theorem QArg.later {W0 w w' : World} {X : Nat → Prop} {va : Value} {l : List Int} (h : QArg W0 X w va l) (hb : Below w.heap.size w w') : QArg W0 X w' va l := ⟨ownsRow_later h.1 hb, h.2⟩
def mkN : Nat → Nat
  | 0 => 2
  | d + 1 => 3 * mkN d + 3
set_option maxRecDepth 100000 in
set_option maxHeartbeats 12800000 in
theorem Whole_step {W0 w : World} {X : Nat → Prop} {b t : Nat} {vB : Value} {bs : List Nat} {p : Po} {us : List Int} (h : MkAt W0 X w b t vB bs p us) (deep : Int) (m n : Nat) (hd0 : 0 ≤ deep) (hd1 : deep ≤ 100) (hn2 : 2 ≤ n) (hn3 : 1 ≤ deep → 3 * m + 3 ≤ n) (hn : p.terms.length + n ≤ 4096)
    (hW : 1 ≤ deep → ∀ X w p, MkAt W0 X w b t vB bs p us → p.terms.length + m ≤ 4096 → Calls Tryz.prog 42 #[.pointer (some ⟨b, 0, none⟩), .int .i64 (deep - 1)] w (MkRes W0 X b t vB bs us p m 2 none w))
    (hB : 1 ≤ deep → ∀ X w p, MkAt W0 X w b t vB bs p us → p.terms.length + m ≤ 4096 → Calls Tryz.prog 24 #[.pointer (some ⟨b, 0, none⟩), .int .i64 (deep - 1)] w (MkRes W0 X b t vB bs us p m 1 none w))
    (hZ : 1 ≤ deep → ∀ X w p, MkAt W0 X w b t vB bs p us → p.terms.length + 2 ≤ 4096 → Calls Tryz.prog 42 #[.pointer (some ⟨b, 0, none⟩), .int .i64 0] w (MkRes W0 X b t vB bs us p 2 2 none w)) :
    Calls Tryz.prog 42 #[.pointer (some ⟨b, 0, none⟩), .int .i64 deep] w (MkRes W0 X b t vB bs us p n 2 none w) := by
  have HM0 := hid h
  have c2 := h.cell2
  have Hx := hid (Next_in 9 h.tp (by decide))
  have HWr := hid hW; have HBr := hid hB; have HZr := hid hZ
  clear h hW hB hZ
  go_enter Tryz.func42, Tryz.ntmps42
  go_wp2_with fail
  refine Hx.out.mono ?_
  rintro e w1 ⟨q, rfl, hq, ht, hA⟩
  have hq1 : q < 9 := by omega
  obtain ⟨p1, hp1⟩ : ∃ q, q = p := ⟨_, rfl⟩
  have HM1 := hid (show MkAt W0 X w1 b t vB bs p1 us from hp1 ▸ HM0.out.next ht hA)
  have HF1 := hid (HM0.out.tp.fr hA)
  have HE1 := hid (show MkExt p p1 from hp1 ▸ MkExt.refl p)
  have hl1 : p1.terms.length ≤ p.terms.length := by rw [hp1]; exact Nat.le_refl _
  clear ht hA hq HM0 Hx c2 hp1
  cases hdp : decide (deep < 1)
  case true =>
    have hd2 : deep < 1 := of_decide_eq_true hdp
    obtain ⟨r, hr⟩ : ∃ r : Nat, (q : Int) % 3 = (r : Nat) := ⟨((q : Int) % 3).toNat, by omega⟩
    have hr3 : r < 3 := by omega
    go_upto_region 4 with fail
    generalize hqr : (q : Int) % 3 = qr at *
    subst hr
    clear hqr
    rcases (show r = 0 ∨ r = 1 ∨ r = 2 by omega) with rfl | rfl | rfl
    ·
      have c2 := HM1.out.cell2
      have Hn2 := hid (Num_apart HM1.out.tp)
      go_wp2_with fail
      refine Hn2.out.mono ?_
      rintro e w2 ⟨u, z, rfl, iz, hz, ht2, hA2⟩
      obtain ⟨pz, nz, cz, rfl, iz⟩ := iz.shape
      have HM2 := hid (HM1.out.next ht2 hA2); have HF2 := hid (HF1.out.trans (HM1.out.tp.fr hA2)); have HR := hid (iz.raw (by omega))
      have HE2 := HE1
      have hl2 := hl1
      obtain ⟨p2, hp2⟩ : ∃ q, q = p1 := ⟨_, rfl⟩
      subst hp2
      clear ht2 hA2 iz Hn2 HM1 HF1 c2 HE1
      have HMa := HM2; have HFa := HF2; have HQ := hid (QArg.nil W0 X w2)
      have hb3 := BMake_any HMa.out ⟨3, [], z, 0⟩ (.slice none 0 0) (decide (z < 0)) pz nz cz HQ.out HR.out (mk_num _ z) (by omega) ⟨by simp, by exact hz⟩
      rw [show plSort _ ⟨3, [], z, 0⟩ = 2 from rfl] at hb3
      have Hb3 := hid hb3
      clear hb3 HQ
      go_wp2_with fail
      refine Hb3.out.mono ?_
      rintro e w3 ⟨x, p3, rfl, hm3, he3, hx, -, hl3, hf3⟩
      have HM3 := hid hm3; have HE3 := hid (HE2.out.trans he3); have HF3 := hid (HFa.out.trans hf3)
      have Ix := hid hx
      clear hm3 he3 hf3 hx Hb3 HM2 HE2 HF2 HMa HFa
      have Hfin := hid (show MkRes W0 X b t vB bs us p n 2 none w (.returned (.int .i64 (x : Nat))) w3 from ⟨x, p3, rfl, HM3.out, HE3.out, Ix.out, (fun x e => by cases e), by omega, HF3.out⟩)
      go_wp2
      go_ret
      exact Hfin.out
    ·
      have c2 := HM1.out.cell2
      have Hn2 := hid (Num_apart HM1.out.tp)
      go_wp2_with fail
      refine Hn2.out.mono ?_
      rintro e w2 ⟨u, z, rfl, iz, hz, ht2, hA2⟩
      obtain ⟨pz, nz, cz, rfl, iz⟩ := iz.shape
      have HM2 := hid (HM1.out.next ht2 hA2); have HF2 := hid (HF1.out.trans (HM1.out.tp.fr hA2)); have HR := hid (iz.raw (by omega))
      have HE2 := HE1
      have hl2 := hl1
      obtain ⟨p2, hp2⟩ : ∃ q, q = p1 := ⟨_, rfl⟩
      subst hp2
      clear ht2 hA2 iz Hn2 HM1 HF1 c2 HE1
      have HMa := HM2; have HFa := HF2; have HQ := hid (QArg.nil W0 X w2)
      have hb3 := BMake_any HMa.out ⟨3, [], z, 0⟩ (.slice none 0 0) (decide (z < 0)) pz nz cz HQ.out HR.out (mk_num _ z) (by omega) ⟨by simp, by exact hz⟩
      rw [show plSort _ ⟨3, [], z, 0⟩ = 2 from rfl] at hb3
      have Hb3 := hid hb3
      clear hb3 HQ
      go_wp2_with fail
      refine Hb3.out.mono ?_
      rintro e w3 ⟨x, p3, rfl, hm3, he3, hx, -, hl3, hf3⟩
      have HM3 := hid hm3; have HE3 := hid (HE2.out.trans he3); have HF3 := hid (HFa.out.trans hf3)
      have Ix := hid hx
      clear hm3 he3 hf3 hx Hb3 HM2 HE2 HF2 HMa HFa
      have Ha4 := hid (app_any HM3.out 0 0 2 0 x (by omega) (by constructor <;> omega) (fun h => absurd h (by decide)) (by omega) Ix.out)
      go_wp2_with fail
      refine Ha4.out.mono ?_
      rintro e w4 ⟨y, p4, rfl, hm4, he4, hy, -, hl4, hf4⟩
      have HM4 := hid hm4; have HE4 := hid (HE3.out.trans he4); have HF4 := hid (HF3.out.trans hf4)
      have Iy := hid hy
      clear hm4 he4 hf4 hy Ha4
      have Hfin := hid (show MkRes W0 X b t vB bs us p n 2 none w (.returned (.int .i64 (y : Nat))) w4 from ⟨y, p4, rfl, HM4.out, HE4.out, Iy.out, (fun x e => by cases e), by omega, HF4.out⟩)
      go_wp2
      go_ret
      exact Hfin.out
    ·
      have c2 := HM1.out.cell2
      have Hn2 := hid (Num_apart HM1.out.tp)
      go_wp2_with fail
      refine Hn2.out.mono ?_
      rintro e w2 ⟨u, z, rfl, iz, hz, ht2, hA2⟩
      obtain ⟨pz, nz, cz, rfl, iz⟩ := iz.shape
      have HM2 := hid (HM1.out.next ht2 hA2); have HF2 := hid (HF1.out.trans (HM1.out.tp.fr hA2)); have HR := hid (iz.raw (by omega))
      have HE2 := HE1
      have hl2 := hl1
      obtain ⟨p2, hp2⟩ : ∃ q, q = p1 := ⟨_, rfl⟩
      subst hp2
      clear ht2 hA2 iz Hn2 HM1 HF1 c2 HE1
      have HMa := HM2; have HFa := HF2; have HQ := hid (QArg.nil W0 X w2)
      have hb3 := BMake_any HMa.out ⟨3, [], z, 0⟩ (.slice none 0 0) (decide (z < 0)) pz nz cz HQ.out HR.out (mk_num _ z) (by omega) ⟨by simp, by exact hz⟩
      rw [show plSort _ ⟨3, [], z, 0⟩ = 2 from rfl] at hb3
      have Hb3 := hid hb3
      clear hb3 HQ
      go_wp2_with fail
      refine Hb3.out.mono ?_
      rintro e w3 ⟨x, p3, rfl, hm3, he3, hx, -, hl3, hf3⟩
      have HM3 := hid hm3; have HE3 := hid (HE2.out.trans he3); have HF3 := hid (HFa.out.trans hf3)
      have Ix := hid hx
      clear hm3 he3 hf3 hx Hb3 HM2 HE2 HF2 HMa HFa
      have Ha4 := hid (app_any HM3.out 0 0 2 0 x (by omega) (by constructor <;> omega) (fun h => absurd h (by decide)) (by omega) Ix.out)
      go_wp2_with fail
      refine Ha4.out.mono ?_
      rintro e w4 ⟨y, p4, rfl, hm4, he4, hy, -, hl4, hf4⟩
      have HM4 := hid hm4; have HE4 := hid (HE3.out.trans he4); have HF4 := hid (HF3.out.trans hf4)
      have Iy := hid hy
      clear hm4 he4 hf4 hy Ha4
      have Hfin := hid (show MkRes W0 X b t vB bs us p n 2 none w (.returned (.int .i64 (y : Nat))) w4 from ⟨y, p4, rfl, HM4.out, HE4.out, Iy.out, (fun x e => by cases e), by omega, HF4.out⟩)
      go_wp2
      go_ret
      exact Hfin.out
  case false =>
    have hd2 : 1 ≤ deep := by have := of_decide_eq_false hdp; omega
    have HW := hid (HWr.out hd2); have HB := hid (HBr.out hd2); have HZ := hid (HZr.out hd2)
    have hn4 := hn3 hd2
    clear HWr HBr HZr
    rcases (show q = 0 ∨ q = 1 ∨ q = 2 ∨ q = 3 ∨ q = 4 ∨ q = 5 ∨ q = 6 ∨ q = 7 ∨ q = 8 by omega) with rfl | rfl | rfl | rfl | rfl | rfl | rfl | rfl | rfl
    ·
      have c2 := HM1.out.cell2
      have Hn2 := hid (Num_apart HM1.out.tp)
      go_wp2_with fail
      refine Hn2.out.mono ?_
      rintro e w2 ⟨u, z, rfl, iz, hz, ht2, hA2⟩
      obtain ⟨pz, nz, cz, rfl, iz⟩ := iz.shape
      have HM2 := hid (HM1.out.next ht2 hA2); have HF2 := hid (HF1.out.trans (HM1.out.tp.fr hA2)); have HR := hid (iz.raw (by omega))
      have HE2 := HE1
      have hl2 := hl1
      obtain ⟨p2, hp2⟩ : ∃ q, q = p1 := ⟨_, rfl⟩
      subst hp2
      clear ht2 hA2 iz Hn2 HM1 HF1 c2 HE1
      have HMa := HM2; have HFa := HF2; have HQ := hid (QArg.nil W0 X w2)
      have hb3 := BMake_any HMa.out ⟨3, [], z, 0⟩ (.slice none 0 0) (decide (z < 0)) pz nz cz HQ.out HR.out (mk_num _ z) (by omega) ⟨by simp, by exact hz⟩
      rw [show plSort _ ⟨3, [], z, 0⟩ = 2 from rfl] at hb3
      have Hb3 := hid hb3
      clear hb3 HQ
      go_wp2_with fail
      refine Hb3.out.mono ?_
      rintro e w3 ⟨x, p3, rfl, hm3, he3, hx, -, hl3, hf3⟩
      have HM3 := hid hm3; have HE3 := hid (HE2.out.trans he3); have HF3 := hid (HFa.out.trans hf3)
      have Ix := hid hx
      clear hm3 he3 hf3 hx Hb3 HM2 HE2 HF2 HMa HFa
      have Hfin := hid (show MkRes W0 X b t vB bs us p n 2 none w (.returned (.int .i64 (x : Nat))) w3 from ⟨x, p3, rfl, HM3.out, HE3.out, Ix.out, (fun x e => by cases e), by omega, HF3.out⟩)
      go_wp2
      go_ret
      exact Hfin.out
    ·
      have c2 := HM1.out.cell2
      have Hn2 := hid (Num_apart HM1.out.tp)
      go_wp2_with fail
      refine Hn2.out.mono ?_
      rintro e w2 ⟨u, z, rfl, iz, hz, ht2, hA2⟩
      obtain ⟨pz, nz, cz, rfl, iz⟩ := iz.shape
      have HM2 := hid (HM1.out.next ht2 hA2); have HF2 := hid (HF1.out.trans (HM1.out.tp.fr hA2)); have HR := hid (iz.raw (by omega))
      have HE2 := HE1
      have hl2 := hl1
      obtain ⟨p2, hp2⟩ : ∃ q, q = p1 := ⟨_, rfl⟩
      subst hp2
      clear ht2 hA2 iz Hn2 HM1 HF1 c2 HE1
      have HMa := HM2; have HFa := HF2; have HQ := hid (QArg.nil W0 X w2)
      have hb3 := BMake_any HMa.out ⟨3, [], z, 0⟩ (.slice none 0 0) (decide (z < 0)) pz nz cz HQ.out HR.out (mk_num _ z) (by omega) ⟨by simp, by exact hz⟩
      rw [show plSort _ ⟨3, [], z, 0⟩ = 2 from rfl] at hb3
      have Hb3 := hid hb3
      clear hb3 HQ
      go_wp2_with fail
      refine Hb3.out.mono ?_
      rintro e w3 ⟨x, p3, rfl, hm3, he3, hx, -, hl3, hf3⟩
      have HM3 := hid hm3; have HE3 := hid (HE2.out.trans he3); have HF3 := hid (HFa.out.trans hf3)
      have Ix := hid hx
      clear hm3 he3 hf3 hx Hb3 HM2 HE2 HF2 HMa HFa
      have Ha4 := hid (app_any HM3.out 0 0 2 0 x (by omega) (by constructor <;> omega) (fun h => absurd h (by decide)) (by omega) Ix.out)
      go_wp2_with fail
      refine Ha4.out.mono ?_
      rintro e w4 ⟨y, p4, rfl, hm4, he4, hy, -, hl4, hf4⟩
      have HM4 := hid hm4; have HE4 := hid (HE3.out.trans he4); have HF4 := hid (HF3.out.trans hf4)
      have Iy := hid hy
      clear hm4 he4 hf4 hy Ha4
      have Hfin := hid (show MkRes W0 X b t vB bs us p n 2 none w (.returned (.int .i64 (y : Nat))) w4 from ⟨y, p4, rfl, HM4.out, HE4.out, Iy.out, (fun x e => by cases e), by omega, HF4.out⟩)
      go_wp2
      go_ret
      exact Hfin.out
    ·
      have c2 := HM1.out.cell2
      have Hn2 := hid (Num_apart HM1.out.tp)
      go_wp2_with fail
      refine Hn2.out.mono ?_
      rintro e w2 ⟨u, z, rfl, iz, hz, ht2, hA2⟩
      obtain ⟨pz, nz, cz, rfl, iz⟩ := iz.shape
      have HM2 := hid (HM1.out.next ht2 hA2); have HF2 := hid (HF1.out.trans (HM1.out.tp.fr hA2)); have HR := hid (iz.raw (by omega))
      have HE2 := HE1
      have hl2 := hl1
      obtain ⟨p2, hp2⟩ : ∃ q, q = p1 := ⟨_, rfl⟩
      subst hp2
      clear ht2 hA2 iz Hn2 HM1 HF1 c2 HE1
      have HMa := HM2; have HFa := HF2; have HQ := hid (QArg.nil W0 X w2)
      have hb3 := BMake_any HMa.out ⟨3, [], z, 0⟩ (.slice none 0 0) (decide (z < 0)) pz nz cz HQ.out HR.out (mk_num _ z) (by omega) ⟨by simp, by exact hz⟩
      rw [show plSort _ ⟨3, [], z, 0⟩ = 2 from rfl] at hb3
      have Hb3 := hid hb3
      clear hb3 HQ
      go_wp2_with fail
      refine Hb3.out.mono ?_
      rintro e w3 ⟨x, p3, rfl, hm3, he3, hx, -, hl3, hf3⟩
      have HM3 := hid hm3; have HE3 := hid (HE2.out.trans he3); have HF3 := hid (HFa.out.trans hf3)
      have Ix := hid hx
      clear hm3 he3 hf3 hx Hb3 HM2 HE2 HF2 HMa HFa
      have Ha4 := hid (app_any HM3.out 0 0 2 0 x (by omega) (by constructor <;> omega) (fun h => absurd h (by decide)) (by omega) Ix.out)
      go_wp2_with fail
      refine Ha4.out.mono ?_
      rintro e w4 ⟨y, p4, rfl, hm4, he4, hy, -, hl4, hf4⟩
      have HM4 := hid hm4; have HE4 := hid (HE3.out.trans he4); have HF4 := hid (HF3.out.trans hf4)
      have Iy := hid hy
      clear hm4 he4 hf4 hy Ha4
      have Hfin := hid (show MkRes W0 X b t vB bs us p n 2 none w (.returned (.int .i64 (y : Nat))) w4 from ⟨y, p4, rfl, HM4.out, HE4.out, Iy.out, (fun x e => by cases e), by omega, HF4.out⟩)
      go_wp2
      go_ret
      exact Hfin.out
    ·
      have Hc2 := hid (HW.out X w1 p1 HM1.out (by omega))
      go_wp2_with fail
      refine Hc2.out.mono ?_
      rintro e w2 ⟨a1, p2, rfl, hm2, he2, ha1, -, hl2, hf2⟩
      have HM2 := hid hm2; have HE2 := hid (HE1.out.trans he2); have HF2 := hid (HF1.out.trans hf2)
      have Ia1 := hid ha1
      clear hm2 he2 hf2 ha1 Hc2 HM1 HE1 HF1
      have Hc3 := hid (HW.out X w2 p2 HM2.out (by omega))
      go_wp2_with fail
      refine Hc3.out.mono ?_
      rintro e w3 ⟨a2, p3, rfl, hm3, he3, ha2, -, hl3, hf3⟩
      have HM3 := hid hm3; have HE3 := hid (HE2.out.trans he3); have HF3 := hid (HF2.out.trans hf3)
      replace Ia1 := hid (Ia1.out.ext he3)
      have Ia2 := hid ha2
      clear hm3 he3 hf3 ha2 Hc3 HM2 HE2 HF2
      have bq := below1 w3 (.cells #[.int .i64 (a1 : Nat), .int .i64 (a2 : Nat)] 3)
      have HQ := hid (QArg.new HM3.out.base HM3.out.xlt [((a1 : Nat) : Int), ((a2 : Nat) : Int)] #[.int .i64 (a1 : Nat), .int .i64 (a2 : Nat)] rfl 2 rfl (by simp))
      have HMa := hid (HM3.out.go bq); have HFa := hid (HF3.out.trans (MkFr.of_below bq))
      have hb4 := BMake_any HMa.out ⟨12, [(a1 : Nat), (a2 : Nat)], 0, 0⟩ (.slice (some ⟨w3.heap.size, 0, none⟩) 2 2) false none 0 0 HQ.out (zeroRaw _) (mk_two _ 12 a1 a2 2 (.inr ⟨rfl, by omega⟩) Ia1.out Ia2.out) (by omega) ⟨by simp, by show sz W 0 ≤ 8; rw [sz_zero]; omega⟩
      rw [show plSort _ ⟨12, [(a1 : Nat), (a2 : Nat)], 0, 0⟩ = 2 from rfl] at hb4
      have Hb4 := hid hb4
      clear hb4 HQ bq
      go_wp2_with fail
      refine Hb4.out.mono ?_
      rintro e w4 ⟨x, p4, rfl, hm4, he4, hx, -, hl4, hf4⟩
      have HM4 := hid hm4; have HE4 := hid (HE3.out.trans he4); have HF4 := hid (HFa.out.trans hf4)
      have Ix := hid hx
      clear hm4 he4 hf4 hx Hb4 HM3 HE3 HF3 HMa HFa
      have Hfin := hid (show MkRes W0 X b t vB bs us p n 2 none w (.returned (.int .i64 (x : Nat))) w4 from ⟨x, p4, rfl, HM4.out, HE4.out, Ix.out, (fun x e => by cases e), by omega, HF4.out⟩)
      go_wp2
      go_ret
      exact Hfin.out
    ·
      have Hc2 := hid (HW.out X w1 p1 HM1.out (by omega))
      go_wp2_with fail
      refine Hc2.out.mono ?_
      rintro e w2 ⟨a1, p2, rfl, hm2, he2, ha1, -, hl2, hf2⟩
      have HM2 := hid hm2; have HE2 := hid (HE1.out.trans he2); have HF2 := hid (HF1.out.trans hf2)
      have Ia1 := hid ha1
      clear hm2 he2 hf2 ha1 Hc2 HM1 HE1 HF1
      have c2 := HM2.out.cell2
      have Hn3 := hid (Num_apart HM2.out.tp)
      go_wp2_with fail
      refine Hn3.out.mono ?_
      rintro e w3 ⟨u, z, rfl, iz, hz, ht3, hA3⟩
      obtain ⟨pz, nz, cz, rfl, iz⟩ := iz.shape
      have HM3 := hid (HM2.out.next ht3 hA3); have HF3 := hid (HF2.out.trans (HM2.out.tp.fr hA3)); have HR := hid (iz.raw (by omega))
      have HE3 := HE2
      have hl3 := hl2
      obtain ⟨p3, hp3⟩ : ∃ q, q = p2 := ⟨_, rfl⟩
      subst hp3
      clear ht3 hA3 iz Hn3 HM2 HF2 c2 HE2
      have bq := below1 w3 (.cells #[.int .i64 (a1 : Nat)] 3)
      have HQ := hid (QArg.new HM3.out.base HM3.out.xlt [((a1 : Nat) : Int)] #[.int .i64 (a1 : Nat)] rfl 1 rfl (by simp))
      have HMa := hid (HM3.out.go bq); have HFa := hid (HF3.out.trans (MkFr.of_below bq))
      have hb4 := BMake_any HMa.out ⟨13, [(a1 : Nat)], z, 0⟩ (.slice (some ⟨w3.heap.size, 0, none⟩) 1 1) (decide (z < 0)) pz nz cz HQ.out (HR.out.below bq) (mk_mul _ a1 z Ia1.out) (by omega) ⟨by simp, by exact hz⟩
      rw [show plSort _ ⟨13, [(a1 : Nat)], z, 0⟩ = 2 from rfl] at hb4
      have Hb4 := hid hb4
      clear hb4 HQ bq
      go_wp2_with fail
      refine Hb4.out.mono ?_
      rintro e w4 ⟨x, p4, rfl, hm4, he4, hx, -, hl4, hf4⟩
      have HM4 := hid hm4; have HE4 := hid (HE3.out.trans he4); have HF4 := hid (HFa.out.trans hf4)
      have Ix := hid hx
      clear hm4 he4 hf4 hx Hb4 HM3 HE3 HF3 HMa HFa
      have Hfin := hid (show MkRes W0 X b t vB bs us p n 2 none w (.returned (.int .i64 (x : Nat))) w4 from ⟨x, p4, rfl, HM4.out, HE4.out, Ix.out, (fun x e => by cases e), by omega, HF4.out⟩)
      go_wp2
      go_ret
      exact Hfin.out
    ·
      have Hc2 := hid (HB.out X w1 p1 HM1.out (by omega))
      go_wp2_with fail
      refine Hc2.out.mono ?_
      rintro e w2 ⟨a0, p2, rfl, hm2, he2, ha0, -, hl2, hf2⟩
      have HM2 := hid hm2; have HE2 := hid (HE1.out.trans he2); have HF2 := hid (HF1.out.trans hf2)
      have Ia0 := hid ha0
      clear hm2 he2 hf2 ha0 Hc2 HM1 HE1 HF1
      have Hc3 := hid (HW.out X w2 p2 HM2.out (by omega))
      go_wp2_with fail
      refine Hc3.out.mono ?_
      rintro e w3 ⟨a1, p3, rfl, hm3, he3, ha1, -, hl3, hf3⟩
      have HM3 := hid hm3; have HE3 := hid (HE2.out.trans he3); have HF3 := hid (HF2.out.trans hf3)
      replace Ia0 := hid (Ia0.out.ext he3)
      have Ia1 := hid ha1
      clear hm3 he3 hf3 ha1 Hc3 HM2 HE2 HF2
      have Hc4 := hid (HW.out X w3 p3 HM3.out (by omega))
      go_wp2_with fail
      refine Hc4.out.mono ?_
      rintro e w4 ⟨a2, p4, rfl, hm4, he4, ha2, -, hl4, hf4⟩
      have HM4 := hid hm4; have HE4 := hid (HE3.out.trans he4); have HF4 := hid (HF3.out.trans hf4)
      replace Ia0 := hid (Ia0.out.ext he4)
      replace Ia1 := hid (Ia1.out.ext he4)
      have Ia2 := hid ha2
      clear hm4 he4 hf4 ha2 Hc4 HM3 HE3 HF3
      have bq := below1 w4 (.cells #[.int .i64 (a0 : Nat), .int .i64 (a1 : Nat), .int .i64 (a2 : Nat)] 3)
      have HQ := hid (QArg.new HM4.out.base HM4.out.xlt [((a0 : Nat) : Int), ((a1 : Nat) : Int), ((a2 : Nat) : Int)] #[.int .i64 (a0 : Nat), .int .i64 (a1 : Nat), .int .i64 (a2 : Nat)] rfl 3 rfl (by simp))
      have HMa := hid (HM4.out.go bq); have HFa := hid (HF4.out.trans (MkFr.of_below bq))
      have hb5 := BMake_any HMa.out ⟨9, [(a0 : Nat), (a1 : Nat), (a2 : Nat)], 0, 0⟩ (.slice (some ⟨w4.heap.size, 0, none⟩) 3 3) false none 0 0 HQ.out (zeroRaw _) (mk_ite _ a0 a1 a2 2 Ia0.out Ia1.out Ia2.out).1 (by omega) ⟨by simp, by show sz W 0 ≤ 8; rw [sz_zero]; omega⟩
      rw [(mk_ite _ a0 a1 a2 2 Ia0.out Ia1.out Ia2.out).2] at hb5
      have Hb5 := hid hb5
      clear hb5 HQ bq
      go_wp2_with fail
      refine Hb5.out.mono ?_
      rintro e w5 ⟨x, p5, rfl, hm5, he5, hx, -, hl5, hf5⟩
      have HM5 := hid hm5; have HE5 := hid (HE4.out.trans he5); have HF5 := hid (HFa.out.trans hf5)
      have Ix := hid hx
      clear hm5 he5 hf5 hx Hb5 HM4 HE4 HF4 HMa HFa
      have Hfin := hid (show MkRes W0 X b t vB bs us p n 2 none w (.returned (.int .i64 (x : Nat))) w5 from ⟨x, p5, rfl, HM5.out, HE5.out, Ix.out, (fun x e => by cases e), by omega, HF5.out⟩)
      go_wp2
      go_ret
      exact Hfin.out
    ·
      have Hc2 := hid (HZ.out X w1 p1 HM1.out (by omega))
      go_wp2_with fail
      refine Hc2.out.mono ?_
      rintro e w2 ⟨a1, p2, rfl, hm2, he2, ha1, -, hl2, hf2⟩
      have HM2 := hid hm2; have HE2 := hid (HE1.out.trans he2); have HF2 := hid (HF1.out.trans hf2)
      have Ia1 := hid ha1
      clear hm2 he2 hf2 ha1 Hc2 HM1 HE1 HF1
      have Ha3 := hid (app_any HM2.out m 1 2 deep a1 (by omega) (by constructor <;> omega) (fun _ => HW.out) (by omega) Ia1.out)
      go_wp2_with fail
      refine Ha3.out.mono ?_
      rintro e w3 ⟨y, p3, rfl, hm3, he3, hy, -, hl3, hf3⟩
      have HM3 := hid hm3; have HE3 := hid (HE2.out.trans he3); have HF3 := hid (HF2.out.trans hf3)
      have Iy := hid hy
      clear hm3 he3 hf3 hy Ha3
      have Hfin := hid (show MkRes W0 X b t vB bs us p n 2 none w (.returned (.int .i64 (y : Nat))) w3 from ⟨y, p3, rfl, HM3.out, HE3.out, Iy.out, (fun x e => by cases e), by omega, HF3.out⟩)
      go_wp2
      go_ret
      exact Hfin.out
    ·
      have c2 := HM1.out.cell2
      have Hn2 := hid (Num_apart HM1.out.tp)
      go_wp2_with fail
      refine Hn2.out.mono ?_
      rintro e w2 ⟨u, z, rfl, iz, hz, ht2, hA2⟩
      obtain ⟨pz, nz, cz, rfl, iz⟩ := iz.shape
      have HM2 := hid (HM1.out.next ht2 hA2); have HF2 := hid (HF1.out.trans (HM1.out.tp.fr hA2)); have HR := hid (iz.raw (by omega))
      have HE2 := HE1
      have hl2 := hl1
      obtain ⟨p2, hp2⟩ : ∃ q, q = p1 := ⟨_, rfl⟩
      subst hp2
      clear ht2 hA2 iz Hn2 HM1 HF1 c2 HE1
      have HMa := HM2; have HFa := HF2; have HQ := hid (QArg.nil W0 X w2)
      have hb3 := BMake_any HMa.out ⟨3, [], z, 0⟩ (.slice none 0 0) (decide (z < 0)) pz nz cz HQ.out HR.out (mk_num _ z) (by omega) ⟨by simp, by exact hz⟩
      rw [show plSort _ ⟨3, [], z, 0⟩ = 2 from rfl] at hb3
      have Hb3 := hid hb3
      clear hb3 HQ
      go_wp2_with fail
      refine Hb3.out.mono ?_
      rintro e w3 ⟨x, p3, rfl, hm3, he3, hx, -, hl3, hf3⟩
      have HM3 := hid hm3; have HE3 := hid (HE2.out.trans he3); have HF3 := hid (HFa.out.trans hf3)
      have Ix := hid hx
      clear hm3 he3 hf3 hx Hb3 HM2 HE2 HF2 HMa HFa
      have Ha4 := hid (app_any HM3.out 0 0 2 0 x (by omega) (by constructor <;> omega) (fun h => absurd h (by decide)) (by omega) Ix.out)
      go_wp2_with fail
      refine Ha4.out.mono ?_
      rintro e w4 ⟨y, p4, rfl, hm4, he4, hy, -, hl4, hf4⟩
      have HM4 := hid hm4; have HE4 := hid (HE3.out.trans he4); have HF4 := hid (HF3.out.trans hf4)
      have Iy := hid hy
      clear hm4 he4 hf4 hy Ha4
      have Hfin := hid (show MkRes W0 X b t vB bs us p n 2 none w (.returned (.int .i64 (y : Nat))) w4 from ⟨y, p4, rfl, HM4.out, HE4.out, Iy.out, (fun x e => by cases e), by omega, HF4.out⟩)
      go_wp2
      go_ret
      exact Hfin.out
    ·
      have c2 := HM1.out.cell2
      have Hn2 := hid (Num_apart HM1.out.tp)
      go_wp2_with fail
      refine Hn2.out.mono ?_
      rintro e w2 ⟨u, z, rfl, iz, hz, ht2, hA2⟩
      obtain ⟨pz, nz, cz, rfl, iz⟩ := iz.shape
      have HM2 := hid (HM1.out.next ht2 hA2); have HF2 := hid (HF1.out.trans (HM1.out.tp.fr hA2)); have HR := hid (iz.raw (by omega))
      have HE2 := HE1
      have hl2 := hl1
      obtain ⟨p2, hp2⟩ : ∃ q, q = p1 := ⟨_, rfl⟩
      subst hp2
      clear ht2 hA2 iz Hn2 HM1 HF1 c2 HE1
      have HMa := HM2; have HFa := HF2; have HQ := hid (QArg.nil W0 X w2)
      have hb3 := BMake_any HMa.out ⟨3, [], z, 0⟩ (.slice none 0 0) (decide (z < 0)) pz nz cz HQ.out HR.out (mk_num _ z) (by omega) ⟨by simp, by exact hz⟩
      rw [show plSort _ ⟨3, [], z, 0⟩ = 2 from rfl] at hb3
      have Hb3 := hid hb3
      clear hb3 HQ
      go_wp2_with fail
      refine Hb3.out.mono ?_
      rintro e w3 ⟨x, p3, rfl, hm3, he3, hx, -, hl3, hf3⟩
      have HM3 := hid hm3; have HE3 := hid (HE2.out.trans he3); have HF3 := hid (HFa.out.trans hf3)
      have Ix := hid hx
      clear hm3 he3 hf3 hx Hb3 HM2 HE2 HF2 HMa HFa
      have Ha4 := hid (app_any HM3.out 0 0 2 0 x (by omega) (by constructor <;> omega) (fun h => absurd h (by decide)) (by omega) Ix.out)
      go_wp2_with fail
      refine Ha4.out.mono ?_
      rintro e w4 ⟨y, p4, rfl, hm4, he4, hy, -, hl4, hf4⟩
      have HM4 := hid hm4; have HE4 := hid (HE3.out.trans he4); have HF4 := hid (HF3.out.trans hf4)
      have Iy := hid hy
      clear hm4 he4 hf4 hy Ha4
      have Hfin := hid (show MkRes W0 X b t vB bs us p n 2 none w (.returned (.int .i64 (y : Nat))) w4 from ⟨y, p4, rfl, HM4.out, HE4.out, Iy.out, (fun x e => by cases e), by omega, HF4.out⟩)
      go_wp2
      go_ret
      exact Hfin.out
end Go.Proofs.YtckkpolikdnilaaGreatDoor
/- elenchusmake's Bool (made by gen_mkwhole.py). -/
namespace Go.Proofs.YtckkpolikdnilaaGreatDoor
open Go.RowKit Big Go.WideMaps

/-- facts of And's and Or's slots -/
def eqT (v0 : Value) : TFact := ⟨fun v _ => v = v0, fun _ _ _ h _ => h⟩
def rowT : TFact := ⟨fun v w => ∃ g, v = .slice (some ⟨g, 0, none⟩) 2 2 ∧ w.heap[g]? = some (.cells #[.int .i64 6, .int .i64 7] 3 (0, 0)), fun _ _ _ ⟨g, e, h⟩ hb => ⟨g, e, (hb.block g (lt_of_block h)).trans h⟩⟩
def ptrT (k : Nat) : TFact := ⟨fun v w => ∃ g, v = .pointer (some ⟨g, k, none⟩) ∧ w.heap[g]? = some (.cells #[.int .i64 6, .int .i64 7] 3 (0, 0)), fun _ _ _ ⟨g, e, h⟩ hb => ⟨g, e, (hb.block g (lt_of_block h)).trans h⟩⟩
def St (W0 : World) (X : Nat → Prop) (b t : Nat) (vB : Value) (bs : List Nat) (us : List Int) (p2 : Po) (m : Nat) (w2 : World) (a2 : Nat) (p3 : Po) (w : World) : Prop := MkAt W0 X w b t vB bs p3 us ∧ MkExt p2 p3 ∧ IsTm p3 a2 1 ∧ p3.terms.length ≤ p2.terms.length + m ∧ MkFr w2 w
theorem St.go {W0 : World} {X : Nat → Prop} {b t : Nat} {vB : Value} {bs : List Nat} {us : List Int} {p2 : Po} {m : Nat} {w2 : World} {a2 : Nat} {p3 : Po} {w w' : World} (h : St W0 X b t vB bs us p2 m w2 a2 p3 w) (hb : Below w.heap.size w w') : St W0 X b t vB bs us p2 m w2 a2 p3 w' :=
  ⟨h.1.go hb, h.2.1, h.2.2.1, h.2.2.2.1, h.2.2.2.2.trans (MkFr.of_below hb)⟩
def stT (W0 : World) (X : Nat → Prop) (b t : Nat) (vB : Value) (bs : List Nat) (us : List Int) (p2 : Po) (m : Nat) (w2 : World) : TFact := ⟨fun v w => ∃ (a2 : Nat) (p3 : Po), v = .int .i64 (a2 : Nat) ∧ St W0 X b t vB bs us p2 m w2 a2 p3 w, fun _ _ _ ⟨a2, p3, e, h⟩ hb => ⟨a2, p3, e, h.go hb⟩⟩
def argT (W0 : World) (X : Nat → Prop) (b t : Nat) (vB : Value) (bs : List Nat) (us : List Int) (p2 : Po) (m : Nat) (w2 : World) (a1 : Nat) : TFact := ⟨fun v w => ∃ (a2 : Nat) (p3 : Po) (g : Nat), v = .slice (some ⟨g, 0, none⟩) 2 2 ∧ QArg W0 X w (.slice (some ⟨g, 0, none⟩) 2 2) [(a1 : Nat), (a2 : Nat)] ∧ St W0 X b t vB bs us p2 m w2 a2 p3 w, fun _ _ _ ⟨a2, p3, g, e, hq, h⟩ hb => ⟨a2, p3, g, e, hq.later hb, h.go hb⟩⟩
def tmT (W0 : World) (X : Nat → Prop) (b t : Nat) (vB : Value) (bs : List Nat) (us : List Int) (p2 : Po) (m : Nat) (w2 : World) (a1 : Nat) (op : Int) : TFact := ⟨fun v w => ∃ (a2 : Nat) (p3 : Po) (g : Nat), v = .agg #[.int .i64 op, .slice (some ⟨g, 0, none⟩) 2 2, .bool false, .slice none 0 0, .int .i64 0] ∧ QArg W0 X w (.slice (some ⟨g, 0, none⟩) 2 2) [(a1 : Nat), (a2 : Nat)] ∧ St W0 X b t vB bs us p2 m w2 a2 p3 w, fun _ _ _ ⟨a2, p3, g, e, hq, h⟩ hb => ⟨a2, p3, g, e, hq.later hb, h.go hb⟩⟩
set_option maxRecDepth 100000 in
set_option maxHeartbeats 12800000 in
theorem Bool_step {W0 w : World} {X : Nat → Prop} {b t : Nat} {vB : Value} {bs : List Nat} {p : Po} {us : List Int} (h : MkAt W0 X w b t vB bs p us) (deep : Int) (m n : Nat) (hd0 : 0 ≤ deep) (hd1 : deep ≤ 100) (hn2 : 2 ≤ n) (hn3 : 1 ≤ deep → 3 * m + 3 ≤ n) (hn : p.terms.length + n ≤ 4096)
    (hW : 1 ≤ deep → ∀ X w p, MkAt W0 X w b t vB bs p us → p.terms.length + m ≤ 4096 → Calls Tryz.prog 42 #[.pointer (some ⟨b, 0, none⟩), .int .i64 (deep - 1)] w (MkRes W0 X b t vB bs us p m 2 none w))
    (hB : 1 ≤ deep → ∀ X w p, MkAt W0 X w b t vB bs p us → p.terms.length + m ≤ 4096 → Calls Tryz.prog 24 #[.pointer (some ⟨b, 0, none⟩), .int .i64 (deep - 1)] w (MkRes W0 X b t vB bs us p m 1 none w))
    (hZ : 1 ≤ deep → ∀ X w p, MkAt W0 X w b t vB bs p us → p.terms.length + 2 ≤ 4096 → Calls Tryz.prog 24 #[.pointer (some ⟨b, 0, none⟩), .int .i64 0] w (MkRes W0 X b t vB bs us p 2 1 none w)) :
    Calls Tryz.prog 24 #[.pointer (some ⟨b, 0, none⟩), .int .i64 deep] w (MkRes W0 X b t vB bs us p n 1 none w) := by
  have HM0 := hid h
  have c2 := h.cell2
  have Hx := hid (Next_in 13 h.tp (by decide))
  have HWr := hid hW; have HBr := hid hB; have HZr := hid hZ
  clear h hW hB hZ
  go_enter Tryz.func24, Tryz.ntmps24
  go_wp2_with fail
  refine Hx.out.mono ?_
  rintro e w1 ⟨q, rfl, hq, ht, hA⟩
  have hq1 : q < 13 := by omega
  obtain ⟨p1, hp1⟩ : ∃ q, q = p := ⟨_, rfl⟩
  have HM1 := hid (show MkAt W0 X w1 b t vB bs p1 us from hp1 ▸ HM0.out.next ht hA)
  have HF1 := hid (HM0.out.tp.fr hA)
  have HE1 := hid (show MkExt p p1 from hp1 ▸ MkExt.refl p)
  have hl1 : p1.terms.length ≤ p.terms.length := by rw [hp1]; exact Nat.le_refl _
  clear ht hA hq HM0 Hx c2 hp1
  cases hdp : decide (deep < 1)
  case true =>
    have hd2 : deep < 1 := of_decide_eq_true hdp
    obtain ⟨r, hr⟩ : ∃ r : Nat, (q : Int) % 3 = (r : Nat) := ⟨((q : Int) % 3).toNat, by omega⟩
    have hr3 : r < 3 := by omega
    go_upto_region 4 with fail
    generalize hqr : (q : Int) % 3 = qr at *
    subst hr
    clear hqr
    rcases (show r = 0 ∨ r = 1 ∨ r = 2 by omega) with rfl | rfl | rfl
    ·
      have c2 := HM1.out.cell2
      have bq := below1 w1 (.cells #[.int .i64 1, .int .i64 2] 3)
      have hq2 := heap_alloc_new w1 (.cells #[.int .i64 1, .int .i64 2] 3)
      have c2 := (HM1.out.go bq).cell2
      have Hn2 := hid (Next_in 2 (HM1.out.go bq).tp (by decide))
      have HMa := hid (HM1.out.go bq); have HFa := hid (HF1.out.trans (MkFr.of_below bq))
      go_wp2_with fail
      generalize hW : (w1.alloc (.cells #[.int .i64 1, .int .i64 2] 3)) = wa at *
      refine Hn2.out.mono ?_
      rintro e w2 ⟨r2, rfl, hr2, ht2, hA2⟩
      have hf2 := HMa.out.tp.fr hA2
      have q2 := two_cells (hf2.cells hq2 (by decide) (by decide) (by decide))
      obtain ⟨y0, y1, -, -⟩ := q2
      have HM2 := hid (HMa.out.next ht2 hA2); have HF2 := hid (HFa.out.trans hf2); have HE2 := HE1; have hl2 := hl1
      obtain ⟨p2, hp2⟩ : ∃ q, q = p1 := ⟨_, rfl⟩
      subst hp2
      have hr3 : r2 = 0 ∨ r2 = 1 := by omega
      clear hW hq2 hr2 ht2 hA2 hf2 bq c2 Hn2 HMa HFa HM1 HF1 HE1
      rcases hr3 with rfl | rfl
      ·
        have HMa := HM2; have HFa := HF2; have HQ := hid (QArg.nil W0 X w2)
        have hb3 := BMake_any HMa.out ⟨1, [], 0, 0⟩ (.slice none 0 0) false none 0 0 HQ.out (zeroRaw _) (mk_leaf _ 1 (by omega)) (by omega) ⟨by simp, by show sz W 0 ≤ 8; rw [sz_zero]; omega⟩
        rw [show plSort _ ⟨1, [], 0, 0⟩ = 1 from rfl] at hb3
        have Hb3 := hid hb3
        clear hb3 HQ
        go_wp2_with fail
        refine Hb3.out.mono ?_
        rintro e w3 ⟨x, p3, rfl, hm3, he3, hx, -, hl3, hf3⟩
        have HM3 := hid hm3; have HE3 := hid (HE2.out.trans he3); have HF3 := hid (HFa.out.trans hf3)
        have Ix := hid hx
        clear hm3 he3 hf3 hx Hb3 HM2 HE2 HF2 HMa HFa
        have Hfin := hid (show MkRes W0 X b t vB bs us p n 1 none w (.returned (.int .i64 (x : Nat))) w3 from ⟨x, p3, rfl, HM3.out, HE3.out, Ix.out, (fun x e => by cases e), by omega, HF3.out⟩)
        go_wp2
        go_ret
        exact Hfin.out
      ·
        have HMa := HM2; have HFa := HF2; have HQ := hid (QArg.nil W0 X w2)
        have hb3 := BMake_any HMa.out ⟨2, [], 0, 0⟩ (.slice none 0 0) false none 0 0 HQ.out (zeroRaw _) (mk_leaf _ 2 (by omega)) (by omega) ⟨by simp, by show sz W 0 ≤ 8; rw [sz_zero]; omega⟩
        rw [show plSort _ ⟨2, [], 0, 0⟩ = 1 from rfl] at hb3
        have Hb3 := hid hb3
        clear hb3 HQ
        go_wp2_with fail
        refine Hb3.out.mono ?_
        rintro e w3 ⟨x, p3, rfl, hm3, he3, hx, -, hl3, hf3⟩
        have HM3 := hid hm3; have HE3 := hid (HE2.out.trans he3); have HF3 := hid (HFa.out.trans hf3)
        have Ix := hid hx
        clear hm3 he3 hf3 hx Hb3 HM2 HE2 HF2 HMa HFa
        have Hfin := hid (show MkRes W0 X b t vB bs us p n 1 none w (.returned (.int .i64 (x : Nat))) w3 from ⟨x, p3, rfl, HM3.out, HE3.out, Ix.out, (fun x e => by cases e), by omega, HF3.out⟩)
        go_wp2
        go_ret
        exact Hfin.out
    ·
      have HMa := HM1; have HFa := HF1; have HQ := hid (QArg.nil W0 X w1)
      have hb2 := BMake_any HMa.out ⟨1, [], 0, 0⟩ (.slice none 0 0) false none 0 0 HQ.out (zeroRaw _) (mk_leaf _ 1 (by omega)) (by omega) ⟨by simp, by show sz W 0 ≤ 8; rw [sz_zero]; omega⟩
      rw [show plSort _ ⟨1, [], 0, 0⟩ = 1 from rfl] at hb2
      have Hb2 := hid hb2
      clear hb2 HQ
      go_wp2_with fail
      refine Hb2.out.mono ?_
      rintro e w2 ⟨x, p2, rfl, hm2, he2, hx, -, hl2, hf2⟩
      have HM2 := hid hm2; have HE2 := hid (HE1.out.trans he2); have HF2 := hid (HFa.out.trans hf2)
      have Ix := hid hx
      clear hm2 he2 hf2 hx Hb2 HM1 HE1 HF1 HMa HFa
      have Ha3 := hid (app_any HM2.out 0 0 1 0 x (by omega) (by constructor <;> omega) (fun h => absurd h (by decide)) (by omega) Ix.out)
      go_wp2_with fail
      refine Ha3.out.mono ?_
      rintro e w3 ⟨y, p3, rfl, hm3, he3, hy, -, hl3, hf3⟩
      have HM3 := hid hm3; have HE3 := hid (HE2.out.trans he3); have HF3 := hid (HF2.out.trans hf3)
      have Iy := hid hy
      clear hm3 he3 hf3 hy Ha3
      have Hfin := hid (show MkRes W0 X b t vB bs us p n 1 none w (.returned (.int .i64 (y : Nat))) w3 from ⟨y, p3, rfl, HM3.out, HE3.out, Iy.out, (fun x e => by cases e), by omega, HF3.out⟩)
      go_wp2
      go_ret
      exact Hfin.out
    ·
      have HMa := HM1; have HFa := HF1; have HQ := hid (QArg.nil W0 X w1)
      have hb2 := BMake_any HMa.out ⟨1, [], 0, 0⟩ (.slice none 0 0) false none 0 0 HQ.out (zeroRaw _) (mk_leaf _ 1 (by omega)) (by omega) ⟨by simp, by show sz W 0 ≤ 8; rw [sz_zero]; omega⟩
      rw [show plSort _ ⟨1, [], 0, 0⟩ = 1 from rfl] at hb2
      have Hb2 := hid hb2
      clear hb2 HQ
      go_wp2_with fail
      refine Hb2.out.mono ?_
      rintro e w2 ⟨x, p2, rfl, hm2, he2, hx, -, hl2, hf2⟩
      have HM2 := hid hm2; have HE2 := hid (HE1.out.trans he2); have HF2 := hid (HFa.out.trans hf2)
      have Ix := hid hx
      clear hm2 he2 hf2 hx Hb2 HM1 HE1 HF1 HMa HFa
      have Ha3 := hid (app_any HM2.out 0 0 1 0 x (by omega) (by constructor <;> omega) (fun h => absurd h (by decide)) (by omega) Ix.out)
      go_wp2_with fail
      refine Ha3.out.mono ?_
      rintro e w3 ⟨y, p3, rfl, hm3, he3, hy, -, hl3, hf3⟩
      have HM3 := hid hm3; have HE3 := hid (HE2.out.trans he3); have HF3 := hid (HF2.out.trans hf3)
      have Iy := hid hy
      clear hm3 he3 hf3 hy Ha3
      have Hfin := hid (show MkRes W0 X b t vB bs us p n 1 none w (.returned (.int .i64 (y : Nat))) w3 from ⟨y, p3, rfl, HM3.out, HE3.out, Iy.out, (fun x e => by cases e), by omega, HF3.out⟩)
      go_wp2
      go_ret
      exact Hfin.out
  case false =>
    have hd2 : 1 ≤ deep := by have := of_decide_eq_false hdp; omega
    have HW := hid (HWr.out hd2); have HB := hid (HBr.out hd2); have HZ := hid (HZr.out hd2)
    have hn4 := hn3 hd2
    clear HWr HBr HZr
    rcases (show q = 0 ∨ q = 1 ∨ q = 2 ∨ q = 3 ∨ q = 4 ∨ q = 5 ∨ q = 6 ∨ q = 7 ∨ q = 8 ∨ q = 9 ∨ q = 10 ∨ q = 11 ∨ q = 12 by omega) with rfl | rfl | rfl | rfl | rfl | rfl | rfl | rfl | rfl | rfl | rfl | rfl | rfl
    ·
      have c2 := HM1.out.cell2
      have bq := below1 w1 (.cells #[.int .i64 1, .int .i64 2] 3)
      have hq2 := heap_alloc_new w1 (.cells #[.int .i64 1, .int .i64 2] 3)
      have c2 := (HM1.out.go bq).cell2
      have Hn2 := hid (Next_in 2 (HM1.out.go bq).tp (by decide))
      have HMa := hid (HM1.out.go bq); have HFa := hid (HF1.out.trans (MkFr.of_below bq))
      go_wp2_with fail
      generalize hW : (w1.alloc (.cells #[.int .i64 1, .int .i64 2] 3)) = wa at *
      refine Hn2.out.mono ?_
      rintro e w2 ⟨r2, rfl, hr2, ht2, hA2⟩
      have hf2 := HMa.out.tp.fr hA2
      have q2 := two_cells (hf2.cells hq2 (by decide) (by decide) (by decide))
      obtain ⟨y0, y1, -, -⟩ := q2
      have HM2 := hid (HMa.out.next ht2 hA2); have HF2 := hid (HFa.out.trans hf2); have HE2 := HE1; have hl2 := hl1
      obtain ⟨p2, hp2⟩ : ∃ q, q = p1 := ⟨_, rfl⟩
      subst hp2
      have hr3 : r2 = 0 ∨ r2 = 1 := by omega
      clear hW hq2 hr2 ht2 hA2 hf2 bq c2 Hn2 HMa HFa HM1 HF1 HE1
      rcases hr3 with rfl | rfl
      ·
        have HMa := HM2; have HFa := HF2; have HQ := hid (QArg.nil W0 X w2)
        have hb3 := BMake_any HMa.out ⟨1, [], 0, 0⟩ (.slice none 0 0) false none 0 0 HQ.out (zeroRaw _) (mk_leaf _ 1 (by omega)) (by omega) ⟨by simp, by show sz W 0 ≤ 8; rw [sz_zero]; omega⟩
        rw [show plSort _ ⟨1, [], 0, 0⟩ = 1 from rfl] at hb3
        have Hb3 := hid hb3
        clear hb3 HQ
        go_wp2_with fail
        refine Hb3.out.mono ?_
        rintro e w3 ⟨x, p3, rfl, hm3, he3, hx, -, hl3, hf3⟩
        have HM3 := hid hm3; have HE3 := hid (HE2.out.trans he3); have HF3 := hid (HFa.out.trans hf3)
        have Ix := hid hx
        clear hm3 he3 hf3 hx Hb3 HM2 HE2 HF2 HMa HFa
        have Hfin := hid (show MkRes W0 X b t vB bs us p n 1 none w (.returned (.int .i64 (x : Nat))) w3 from ⟨x, p3, rfl, HM3.out, HE3.out, Ix.out, (fun x e => by cases e), by omega, HF3.out⟩)
        go_wp2
        go_ret
        exact Hfin.out
      ·
        have HMa := HM2; have HFa := HF2; have HQ := hid (QArg.nil W0 X w2)
        have hb3 := BMake_any HMa.out ⟨2, [], 0, 0⟩ (.slice none 0 0) false none 0 0 HQ.out (zeroRaw _) (mk_leaf _ 2 (by omega)) (by omega) ⟨by simp, by show sz W 0 ≤ 8; rw [sz_zero]; omega⟩
        rw [show plSort _ ⟨2, [], 0, 0⟩ = 1 from rfl] at hb3
        have Hb3 := hid hb3
        clear hb3 HQ
        go_wp2_with fail
        refine Hb3.out.mono ?_
        rintro e w3 ⟨x, p3, rfl, hm3, he3, hx, -, hl3, hf3⟩
        have HM3 := hid hm3; have HE3 := hid (HE2.out.trans he3); have HF3 := hid (HFa.out.trans hf3)
        have Ix := hid hx
        clear hm3 he3 hf3 hx Hb3 HM2 HE2 HF2 HMa HFa
        have Hfin := hid (show MkRes W0 X b t vB bs us p n 1 none w (.returned (.int .i64 (x : Nat))) w3 from ⟨x, p3, rfl, HM3.out, HE3.out, Ix.out, (fun x e => by cases e), by omega, HF3.out⟩)
        go_wp2
        go_ret
        exact Hfin.out
    ·
      have HMa := HM1; have HFa := HF1; have HQ := hid (QArg.nil W0 X w1)
      have hb2 := BMake_any HMa.out ⟨1, [], 0, 0⟩ (.slice none 0 0) false none 0 0 HQ.out (zeroRaw _) (mk_leaf _ 1 (by omega)) (by omega) ⟨by simp, by show sz W 0 ≤ 8; rw [sz_zero]; omega⟩
      rw [show plSort _ ⟨1, [], 0, 0⟩ = 1 from rfl] at hb2
      have Hb2 := hid hb2
      clear hb2 HQ
      go_wp2_with fail
      refine Hb2.out.mono ?_
      rintro e w2 ⟨x, p2, rfl, hm2, he2, hx, -, hl2, hf2⟩
      have HM2 := hid hm2; have HE2 := hid (HE1.out.trans he2); have HF2 := hid (HFa.out.trans hf2)
      have Ix := hid hx
      clear hm2 he2 hf2 hx Hb2 HM1 HE1 HF1 HMa HFa
      have Ha3 := hid (app_any HM2.out 0 0 1 0 x (by omega) (by constructor <;> omega) (fun h => absurd h (by decide)) (by omega) Ix.out)
      go_wp2_with fail
      refine Ha3.out.mono ?_
      rintro e w3 ⟨y, p3, rfl, hm3, he3, hy, -, hl3, hf3⟩
      have HM3 := hid hm3; have HE3 := hid (HE2.out.trans he3); have HF3 := hid (HF2.out.trans hf3)
      have Iy := hid hy
      clear hm3 he3 hf3 hy Ha3
      have Hfin := hid (show MkRes W0 X b t vB bs us p n 1 none w (.returned (.int .i64 (y : Nat))) w3 from ⟨y, p3, rfl, HM3.out, HE3.out, Iy.out, (fun x e => by cases e), by omega, HF3.out⟩)
      go_wp2
      go_ret
      exact Hfin.out
    ·
      have HMa := HM1; have HFa := HF1; have HQ := hid (QArg.nil W0 X w1)
      have hb2 := BMake_any HMa.out ⟨1, [], 0, 0⟩ (.slice none 0 0) false none 0 0 HQ.out (zeroRaw _) (mk_leaf _ 1 (by omega)) (by omega) ⟨by simp, by show sz W 0 ≤ 8; rw [sz_zero]; omega⟩
      rw [show plSort _ ⟨1, [], 0, 0⟩ = 1 from rfl] at hb2
      have Hb2 := hid hb2
      clear hb2 HQ
      go_wp2_with fail
      refine Hb2.out.mono ?_
      rintro e w2 ⟨x, p2, rfl, hm2, he2, hx, -, hl2, hf2⟩
      have HM2 := hid hm2; have HE2 := hid (HE1.out.trans he2); have HF2 := hid (HFa.out.trans hf2)
      have Ix := hid hx
      clear hm2 he2 hf2 hx Hb2 HM1 HE1 HF1 HMa HFa
      have Ha3 := hid (app_any HM2.out 0 0 1 0 x (by omega) (by constructor <;> omega) (fun h => absurd h (by decide)) (by omega) Ix.out)
      go_wp2_with fail
      refine Ha3.out.mono ?_
      rintro e w3 ⟨y, p3, rfl, hm3, he3, hy, -, hl3, hf3⟩
      have HM3 := hid hm3; have HE3 := hid (HE2.out.trans he3); have HF3 := hid (HF2.out.trans hf3)
      have Iy := hid hy
      clear hm3 he3 hf3 hy Ha3
      have Hfin := hid (show MkRes W0 X b t vB bs us p n 1 none w (.returned (.int .i64 (y : Nat))) w3 from ⟨y, p3, rfl, HM3.out, HE3.out, Iy.out, (fun x e => by cases e), by omega, HF3.out⟩)
      go_wp2
      go_ret
      exact Hfin.out
    ·
      have Hc2 := hid (HB.out X w1 p1 HM1.out (by omega))
      go_wp2_with fail
      refine Hc2.out.mono ?_
      rintro e w2 ⟨a1, p2, rfl, hm2, he2, ha1, -, hl2, hf2⟩
      have HM2 := hid hm2; have HE2 := hid (HE1.out.trans he2); have HF2 := hid (HF1.out.trans hf2)
      have Ia1 := hid ha1
      clear hm2 he2 hf2 ha1 Hc2 HM1 HE1 HF1
      have HB2 := hid HB.out
      clear HW HB HZ
      go_upto_region 8 with fail
      refine wp_region_mk (w0 := w2) 13 2 [29, 30, 31, 32, 33, 34, 35, 36, 37, 38, 39, 40, 41] [undef, undef, undef, undef, undef, undef, undef, undef, undef, undef, undef, undef, undef]
        (fun i => match i with | 0 => eqT (.pointer (some ⟨b, 0, none⟩)) | 1 => rowT | 2 => eqT (.int .i64 3) | 3 => eqT (.int .i64 0) | 4 => ptrT 0 | 5 => eqT (.int .i64 6) | 6 => eqT (.int .i64 (a1 : Nat)) | 7 => eqT (.pointer (some ⟨b, 0, none⟩)) | 8 => eqT (.int .i64 deep) | 9 => eqT (.int .i64 (deep - 1)) | 10 => stT W0 X b t vB bs us p2 m w2 | 11 => argT W0 X b t vB bs us p2 m w2 a1 | _ => tmT W0 X b t vB bs us p2 m w2 a1 6) 10 (fun _ _ => True) (fun _ _ _ _ _ => trivial) (by kernel_rfl) (by kernel_rfl) (by kernel_rfl) (by kernel_rfl) (by decide) rfl (by kernel_rfl) rfl (by decide) ?hst ?he1 ?_ ?_
      case he1 => simp only [putAll, Act.put, List.setIfInBounds_toArray, List.set_cons_zero, List.set_cons_succ]
      case hst =>
        intro j hj hr hne v wx wy h hf
        rcases j with _ | _ | _ | _ | _ | _ | _ | _ | _ | _ | _ | _ | _ | j
        · exact h
        · obtain ⟨g, e, h⟩ := h; exact ⟨g, e, hf.cells h (by decide) (by decide) (by decide)⟩
        · exact h
        · exact h
        · obtain ⟨g, e, h⟩ := h; exact ⟨g, e, hf.cells h (by decide) (by decide) (by decide)⟩
        · exact h
        · exact h
        · exact h
        · exact h
        · exact h
        · exact absurd rfl hne
        · exact absurd (show false = true from hr.symm.trans (by kernel_rfl)) (by decide)
        · exact absurd (show false = true from hr.symm.trans (by kernel_rfl)) (by decide)
        · omega
      · intro i o hi ho vs wx hvl hb hB hdep K hK
        have hvs := vlen13 hvl
        obtain ⟨s29, s30, s31, s32, s33, s34, s35, s36, s37, s38, s39, s40, s41, rfl⟩ := hvs
        clear hvl
        rcases i with _ | _ | _ | _ | _ | _ | _ | _ | _ | _ | _ | _ | _ | i
        all_goals (simp only [List.getElem?_toArray, List.getElem?_cons_zero, List.getElem?_cons_succ, Option.some.injEq] at ho)
        all_goals try (subst ho)
        all_goals try simp only [putAll, Act.put, List.setIfInBounds_toArray, List.set_cons_zero, List.set_cons_succ]
        · go_simp
          have hK' := hK.out
          simp only [putAll, Act.put, List.setIfInBounds_toArray, List.set_cons_zero, List.set_cons_succ] at hK'
          exact hK' _ _ rfl (fun _ => Below.refl _ _) (fun h => absurd h (by decide))
        · go_simp
          have hK' := hK.out
          simp only [putAll, Act.put, List.setIfInBounds_toArray, List.set_cons_zero, List.set_cons_succ] at hK'
          exact hK' _ _ ⟨_, rfl, heap_alloc_new wx _⟩ (fun _ => below1 _ _) (fun h => absurd h (by decide))
        · go_simp
          have hK' := hK.out
          simp only [putAll, Act.put, List.setIfInBounds_toArray, List.set_cons_zero, List.set_cons_succ] at hK'
          exact hK' _ _ rfl (fun _ => Below.refl _ _) (fun h => absurd h (by decide))
        · have e2 : s31 = _ := hdep ⟨2, .data⟩ (by simp) rfl
          have e2 := e2.symm
          subst e2
          go_simp
          have hK' := hK.out
          simp only [putAll, Act.put, List.setIfInBounds_toArray, List.set_cons_zero, List.set_cons_succ] at hK'
          exact hK' _ _ rfl (fun _ => Below.refl _ _) (fun h => absurd h (by decide))
        · have e1 : (rowT).P s30 wx := hdep ⟨1, .data⟩ (by simp) rfl
          have e3 : s32 = _ := hdep ⟨3, .data⟩ (by simp) rfl
          have e3 := e3.symm
          subst e3
          obtain ⟨g, e1', h67⟩ := e1
          have e1' := e1'.symm
          subst e1'
          go_simp
          have hK' := hK.out
          simp only [putAll, Act.put, List.setIfInBounds_toArray, List.set_cons_zero, List.set_cons_succ] at hK'
          exact hK' _ _ ⟨g, rfl, h67⟩ (fun _ => Below.refl _ _) (fun h => absurd h (by decide))
        · have e4 : (ptrT 0).P s33 wx := hdep ⟨4, .data⟩ (by simp) rfl
          obtain ⟨g, e4', h67⟩ := e4
          have e4' := e4'.symm
          subst e4'
          have q2 := two_cells h67
          obtain ⟨y0, y1, -, -⟩ := q2
          go_simp
          have hK' := hK.out
          simp only [putAll, Act.put, List.setIfInBounds_toArray, List.set_cons_zero, List.set_cons_succ] at hK'
          exact hK' _ _ rfl (fun _ => Below.refl _ _) (fun h => absurd h (by decide))
        · go_simp
          have hK' := hK.out
          simp only [putAll, Act.put, List.setIfInBounds_toArray, List.set_cons_zero, List.set_cons_succ] at hK'
          exact hK' _ _ rfl (fun _ => Below.refl _ _) (fun h => absurd h (by decide))
        · go_simp
          have hK' := hK.out
          simp only [putAll, Act.put, List.setIfInBounds_toArray, List.set_cons_zero, List.set_cons_succ] at hK'
          exact hK' _ _ rfl (fun _ => Below.refl _ _) (fun h => absurd h (by decide))
        · go_simp
          have hK' := hK.out
          simp only [putAll, Act.put, List.setIfInBounds_toArray, List.set_cons_zero, List.set_cons_succ] at hK'
          exact hK' _ _ rfl (fun _ => Below.refl _ _) (fun h => absurd h (by decide))
        · have e8 : s37 = _ := hdep ⟨8, .data⟩ (by simp) rfl
          have e8 := e8.symm
          subst e8
          go_simp
          have hK' := hK.out
          simp only [putAll, Act.put, List.setIfInBounds_toArray, List.set_cons_zero, List.set_cons_succ] at hK'
          exact hK' _ _ (show Value.int .i64 (IntKind.i64.wrap (deep - 1)) = .int .i64 (deep - 1) by rw [IntWalk.i64_in _ (by omega)]) (fun _ => Below.refl _ _) (fun h => absurd h (by decide))
        · have e7 : s36 = _ := hdep ⟨7, .data⟩ (by simp) rfl
          have e7 := e7.symm
          subst e7
          have e9 : s38 = _ := hdep ⟨9, .data⟩ (by simp) rfl
          have e9 := e9.symm
          subst e9
          have hb0 : Below w2.heap.size w2 wx := hB (.inl rfl)
          go_simp
          refine (HB2.out X wx p2 (HM2.out.go hb0) (by omega)).mono ?_
          rintro e wy ⟨a2, p3, rfl, hm3, he3, h3, -, hl3, hf3⟩
          go_wp2_with fail
          have hK' := hK.out
          simp only [putAll, Act.put, List.setIfInBounds_toArray, List.set_cons_zero, List.set_cons_succ] at hK'
          exact hK' _ _ ⟨a2, p3, rfl, hm3, he3, h3, hl3, (MkFr.of_below hb0).trans hf3⟩ (fun h => absurd rfl h) (fun _ => ⟨hf3, trivial⟩)
        · have e6 : s35 = _ := hdep ⟨6, .data⟩ (by simp) rfl
          have e6 := e6.symm
          subst e6
          have e10 : (stT W0 X b t vB bs us p2 m w2).P s39 wx := hdep ⟨10, .data⟩ (by simp) rfl
          obtain ⟨a2, p3, e10', st⟩ := e10
          have e10' := e10'.symm
          subst e10'
          go_simp
          have hK' := hK.out
          simp only [putAll, Act.put, List.setIfInBounds_toArray, List.set_cons_zero, List.set_cons_succ] at hK'
          exact hK' _ _ ⟨a2, p3, _, rfl, QArg.new st.1.base st.1.xlt [((a1 : Nat) : Int), ((a2 : Nat) : Int)] #[.int .i64 (a1 : Nat), .int .i64 (a2 : Nat)] rfl 2 rfl (by simp), St.go st (below1 _ _)⟩ (fun _ => below1 _ _) (fun h => absurd h (by decide))
        · have e5 : s34 = _ := hdep ⟨5, .data⟩ (by simp) rfl
          have e5 := e5.symm
          subst e5
          have e11 : (argT W0 X b t vB bs us p2 m w2 a1).P s40 wx := hdep ⟨11, .data⟩ (by simp) rfl
          obtain ⟨a2, p3, g, e11', hq, st⟩ := e11
          have e11' := e11'.symm
          subst e11'
          go_simp
          have hK' := hK.out
          simp only [putAll, Act.put, List.setIfInBounds_toArray, List.set_cons_zero, List.set_cons_succ] at hK'
          exact hK' _ _ ⟨a2, p3, g, rfl, hq, st⟩ (fun _ => Below.refl _ _) (fun h => absurd h (by decide))
        · omega
      · intro vs wx hvl hb hf hJw
        have hvs := vlen13 hvl
        obtain ⟨s29, s30, s31, s32, s33, s34, s35, s36, s37, s38, s39, s40, s41, rfl⟩ := hvs
        have e0 : s29 = .pointer (some ⟨b, 0, none⟩) := hf 0 (by decide)
        subst e0
        have e12 : (tmT W0 X b t vB bs us p2 m w2 a1 6).P s41 wx := hf 12 (by decide)
        obtain ⟨a2, p3, g, e12', hq, st⟩ := e12
        subst e12'
        clear hf hvl hJw
        obtain ⟨hm3, he3, h3, hl3, hf3⟩ := st
        have hb := BMake_any hm3 ⟨6, [(a1 : Nat), (a2 : Nat)], 0, 0⟩ (.slice (some ⟨g, 0, none⟩) 2 2) false none 0 0 hq (zeroRaw _) (mk_two _ 6 a1 a2 1 (.inl ⟨rfl, by omega⟩) (Ia1.out.ext he3) h3) (by omega) ⟨by simp, by show sz W 0 ≤ 8; rw [sz_zero]; omega⟩
        rw [show plSort p3 ⟨6, [(a1 : Nat), (a2 : Nat)], 0, 0⟩ = 1 from rfl] at hb
        have Hb := hid hb
        have HE3 := hid (HE2.out.trans he3); have HF3 := hid (HF2.out.trans hf3)
        clear hb he3 hf3 h3 hq hm3
        refine wpAny_one (i := 13) (by kernel_rfl) rfl ?_
        intro K hK
        simp only [putAll, Act.put, List.setIfInBounds_toArray, List.set_cons_zero, List.set_cons_succ]
        go_simp
        refine Hb.out.mono ?_
        rintro e w5 ⟨x, p5, rfl, hm5, he5, hx5, -, hl5, hf5⟩
        have Hfin := hid (show MkRes W0 X b t vB bs us p n 1 none w (.returned (.int .i64 (x : Nat))) w5 from ⟨x, p5, rfl, hm5, HE3.out.trans he5, hx5, (fun x e => by cases e), by omega, HF3.out.trans hf5⟩)
        clear hm5 he5 hx5 hf5
        go_wp2_with fail
        have hK' := hK.out
        apply hK'
        clear hK hK'
        refine wpAny_one (i := 14) (by kernel_rfl) rfl ?_
        intro K hK
        have hK' := hK.out
        go_simp
        apply hK'
        clear hK hK'
        refine wpAny_done (by kernel_rfl) ?_ _
        go_wp2
        go_ret
        exact Hfin.out
    ·
      have Hc2 := hid (HB.out X w1 p1 HM1.out (by omega))
      go_wp2_with fail
      refine Hc2.out.mono ?_
      rintro e w2 ⟨a1, p2, rfl, hm2, he2, ha1, -, hl2, hf2⟩
      have HM2 := hid hm2; have HE2 := hid (HE1.out.trans he2); have HF2 := hid (HF1.out.trans hf2)
      have Ia1 := hid ha1
      clear hm2 he2 hf2 ha1 Hc2 HM1 HE1 HF1
      have HB2 := hid HB.out
      clear HW HB HZ
      go_upto_region 8 with fail
      refine wp_region_mk (w0 := w2) 13 2 [29, 30, 31, 32, 33, 34, 35, 36, 37, 38, 39, 40, 41] [undef, undef, undef, undef, undef, undef, undef, undef, undef, undef, undef, undef, undef]
        (fun i => match i with | 0 => eqT (.pointer (some ⟨b, 0, none⟩)) | 1 => rowT | 2 => eqT (.int .i64 4) | 3 => eqT (.int .i64 1) | 4 => ptrT 1 | 5 => eqT (.int .i64 7) | 6 => eqT (.int .i64 (a1 : Nat)) | 7 => eqT (.pointer (some ⟨b, 0, none⟩)) | 8 => eqT (.int .i64 deep) | 9 => eqT (.int .i64 (deep - 1)) | 10 => stT W0 X b t vB bs us p2 m w2 | 11 => argT W0 X b t vB bs us p2 m w2 a1 | _ => tmT W0 X b t vB bs us p2 m w2 a1 7) 10 (fun _ _ => True) (fun _ _ _ _ _ => trivial) (by kernel_rfl) (by kernel_rfl) (by kernel_rfl) (by kernel_rfl) (by decide) rfl (by kernel_rfl) rfl (by decide) ?hst ?he1 ?_ ?_
      case he1 => simp only [putAll, Act.put, List.setIfInBounds_toArray, List.set_cons_zero, List.set_cons_succ]
      case hst =>
        intro j hj hr hne v wx wy h hf
        rcases j with _ | _ | _ | _ | _ | _ | _ | _ | _ | _ | _ | _ | _ | j
        · exact h
        · obtain ⟨g, e, h⟩ := h; exact ⟨g, e, hf.cells h (by decide) (by decide) (by decide)⟩
        · exact h
        · exact h
        · obtain ⟨g, e, h⟩ := h; exact ⟨g, e, hf.cells h (by decide) (by decide) (by decide)⟩
        · exact h
        · exact h
        · exact h
        · exact h
        · exact h
        · exact absurd rfl hne
        · exact absurd (show false = true from hr.symm.trans (by kernel_rfl)) (by decide)
        · exact absurd (show false = true from hr.symm.trans (by kernel_rfl)) (by decide)
        · omega
      · intro i o hi ho vs wx hvl hb hB hdep K hK
        have hvs := vlen13 hvl
        obtain ⟨s29, s30, s31, s32, s33, s34, s35, s36, s37, s38, s39, s40, s41, rfl⟩ := hvs
        clear hvl
        rcases i with _ | _ | _ | _ | _ | _ | _ | _ | _ | _ | _ | _ | _ | i
        all_goals (simp only [List.getElem?_toArray, List.getElem?_cons_zero, List.getElem?_cons_succ, Option.some.injEq] at ho)
        all_goals try (subst ho)
        all_goals try simp only [putAll, Act.put, List.setIfInBounds_toArray, List.set_cons_zero, List.set_cons_succ]
        · go_simp
          have hK' := hK.out
          simp only [putAll, Act.put, List.setIfInBounds_toArray, List.set_cons_zero, List.set_cons_succ] at hK'
          exact hK' _ _ rfl (fun _ => Below.refl _ _) (fun h => absurd h (by decide))
        · go_simp
          have hK' := hK.out
          simp only [putAll, Act.put, List.setIfInBounds_toArray, List.set_cons_zero, List.set_cons_succ] at hK'
          exact hK' _ _ ⟨_, rfl, heap_alloc_new wx _⟩ (fun _ => below1 _ _) (fun h => absurd h (by decide))
        · go_simp
          have hK' := hK.out
          simp only [putAll, Act.put, List.setIfInBounds_toArray, List.set_cons_zero, List.set_cons_succ] at hK'
          exact hK' _ _ rfl (fun _ => Below.refl _ _) (fun h => absurd h (by decide))
        · have e2 : s31 = _ := hdep ⟨2, .data⟩ (by simp) rfl
          have e2 := e2.symm
          subst e2
          go_simp
          have hK' := hK.out
          simp only [putAll, Act.put, List.setIfInBounds_toArray, List.set_cons_zero, List.set_cons_succ] at hK'
          exact hK' _ _ rfl (fun _ => Below.refl _ _) (fun h => absurd h (by decide))
        · have e1 : (rowT).P s30 wx := hdep ⟨1, .data⟩ (by simp) rfl
          have e3 : s32 = _ := hdep ⟨3, .data⟩ (by simp) rfl
          have e3 := e3.symm
          subst e3
          obtain ⟨g, e1', h67⟩ := e1
          have e1' := e1'.symm
          subst e1'
          go_simp
          have hK' := hK.out
          simp only [putAll, Act.put, List.setIfInBounds_toArray, List.set_cons_zero, List.set_cons_succ] at hK'
          exact hK' _ _ ⟨g, rfl, h67⟩ (fun _ => Below.refl _ _) (fun h => absurd h (by decide))
        · have e4 : (ptrT 1).P s33 wx := hdep ⟨4, .data⟩ (by simp) rfl
          obtain ⟨g, e4', h67⟩ := e4
          have e4' := e4'.symm
          subst e4'
          have q2 := two_cells h67
          obtain ⟨y0, y1, -, -⟩ := q2
          go_simp
          have hK' := hK.out
          simp only [putAll, Act.put, List.setIfInBounds_toArray, List.set_cons_zero, List.set_cons_succ] at hK'
          exact hK' _ _ rfl (fun _ => Below.refl _ _) (fun h => absurd h (by decide))
        · go_simp
          have hK' := hK.out
          simp only [putAll, Act.put, List.setIfInBounds_toArray, List.set_cons_zero, List.set_cons_succ] at hK'
          exact hK' _ _ rfl (fun _ => Below.refl _ _) (fun h => absurd h (by decide))
        · go_simp
          have hK' := hK.out
          simp only [putAll, Act.put, List.setIfInBounds_toArray, List.set_cons_zero, List.set_cons_succ] at hK'
          exact hK' _ _ rfl (fun _ => Below.refl _ _) (fun h => absurd h (by decide))
        · go_simp
          have hK' := hK.out
          simp only [putAll, Act.put, List.setIfInBounds_toArray, List.set_cons_zero, List.set_cons_succ] at hK'
          exact hK' _ _ rfl (fun _ => Below.refl _ _) (fun h => absurd h (by decide))
        · have e8 : s37 = _ := hdep ⟨8, .data⟩ (by simp) rfl
          have e8 := e8.symm
          subst e8
          go_simp
          have hK' := hK.out
          simp only [putAll, Act.put, List.setIfInBounds_toArray, List.set_cons_zero, List.set_cons_succ] at hK'
          exact hK' _ _ (show Value.int .i64 (IntKind.i64.wrap (deep - 1)) = .int .i64 (deep - 1) by rw [IntWalk.i64_in _ (by omega)]) (fun _ => Below.refl _ _) (fun h => absurd h (by decide))
        · have e7 : s36 = _ := hdep ⟨7, .data⟩ (by simp) rfl
          have e7 := e7.symm
          subst e7
          have e9 : s38 = _ := hdep ⟨9, .data⟩ (by simp) rfl
          have e9 := e9.symm
          subst e9
          have hb0 : Below w2.heap.size w2 wx := hB (.inl rfl)
          go_simp
          refine (HB2.out X wx p2 (HM2.out.go hb0) (by omega)).mono ?_
          rintro e wy ⟨a2, p3, rfl, hm3, he3, h3, -, hl3, hf3⟩
          go_wp2_with fail
          have hK' := hK.out
          simp only [putAll, Act.put, List.setIfInBounds_toArray, List.set_cons_zero, List.set_cons_succ] at hK'
          exact hK' _ _ ⟨a2, p3, rfl, hm3, he3, h3, hl3, (MkFr.of_below hb0).trans hf3⟩ (fun h => absurd rfl h) (fun _ => ⟨hf3, trivial⟩)
        · have e6 : s35 = _ := hdep ⟨6, .data⟩ (by simp) rfl
          have e6 := e6.symm
          subst e6
          have e10 : (stT W0 X b t vB bs us p2 m w2).P s39 wx := hdep ⟨10, .data⟩ (by simp) rfl
          obtain ⟨a2, p3, e10', st⟩ := e10
          have e10' := e10'.symm
          subst e10'
          go_simp
          have hK' := hK.out
          simp only [putAll, Act.put, List.setIfInBounds_toArray, List.set_cons_zero, List.set_cons_succ] at hK'
          exact hK' _ _ ⟨a2, p3, _, rfl, QArg.new st.1.base st.1.xlt [((a1 : Nat) : Int), ((a2 : Nat) : Int)] #[.int .i64 (a1 : Nat), .int .i64 (a2 : Nat)] rfl 2 rfl (by simp), St.go st (below1 _ _)⟩ (fun _ => below1 _ _) (fun h => absurd h (by decide))
        · have e5 : s34 = _ := hdep ⟨5, .data⟩ (by simp) rfl
          have e5 := e5.symm
          subst e5
          have e11 : (argT W0 X b t vB bs us p2 m w2 a1).P s40 wx := hdep ⟨11, .data⟩ (by simp) rfl
          obtain ⟨a2, p3, g, e11', hq, st⟩ := e11
          have e11' := e11'.symm
          subst e11'
          go_simp
          have hK' := hK.out
          simp only [putAll, Act.put, List.setIfInBounds_toArray, List.set_cons_zero, List.set_cons_succ] at hK'
          exact hK' _ _ ⟨a2, p3, g, rfl, hq, st⟩ (fun _ => Below.refl _ _) (fun h => absurd h (by decide))
        · omega
      · intro vs wx hvl hb hf hJw
        have hvs := vlen13 hvl
        obtain ⟨s29, s30, s31, s32, s33, s34, s35, s36, s37, s38, s39, s40, s41, rfl⟩ := hvs
        have e0 : s29 = .pointer (some ⟨b, 0, none⟩) := hf 0 (by decide)
        subst e0
        have e12 : (tmT W0 X b t vB bs us p2 m w2 a1 7).P s41 wx := hf 12 (by decide)
        obtain ⟨a2, p3, g, e12', hq, st⟩ := e12
        subst e12'
        clear hf hvl hJw
        obtain ⟨hm3, he3, h3, hl3, hf3⟩ := st
        have hb := BMake_any hm3 ⟨7, [(a1 : Nat), (a2 : Nat)], 0, 0⟩ (.slice (some ⟨g, 0, none⟩) 2 2) false none 0 0 hq (zeroRaw _) (mk_two _ 7 a1 a2 1 (.inl ⟨rfl, by omega⟩) (Ia1.out.ext he3) h3) (by omega) ⟨by simp, by show sz W 0 ≤ 8; rw [sz_zero]; omega⟩
        rw [show plSort p3 ⟨7, [(a1 : Nat), (a2 : Nat)], 0, 0⟩ = 1 from rfl] at hb
        have Hb := hid hb
        have HE3 := hid (HE2.out.trans he3); have HF3 := hid (HF2.out.trans hf3)
        clear hb he3 hf3 h3 hq hm3
        refine wpAny_one (i := 13) (by kernel_rfl) rfl ?_
        intro K hK
        simp only [putAll, Act.put, List.setIfInBounds_toArray, List.set_cons_zero, List.set_cons_succ]
        go_simp
        refine Hb.out.mono ?_
        rintro e w5 ⟨x, p5, rfl, hm5, he5, hx5, -, hl5, hf5⟩
        have Hfin := hid (show MkRes W0 X b t vB bs us p n 1 none w (.returned (.int .i64 (x : Nat))) w5 from ⟨x, p5, rfl, hm5, HE3.out.trans he5, hx5, (fun x e => by cases e), by omega, HF3.out.trans hf5⟩)
        clear hm5 he5 hx5 hf5
        go_wp2_with fail
        have hK' := hK.out
        apply hK'
        clear hK hK'
        refine wpAny_one (i := 14) (by kernel_rfl) rfl ?_
        intro K hK
        have hK' := hK.out
        go_simp
        apply hK'
        clear hK hK'
        refine wpAny_done (by kernel_rfl) ?_ _
        go_wp2
        go_ret
        exact Hfin.out
    ·
      have Hc2 := hid (HB.out X w1 p1 HM1.out (by omega))
      go_wp2_with fail
      refine Hc2.out.mono ?_
      rintro e w2 ⟨a1, p2, rfl, hm2, he2, ha1, -, hl2, hf2⟩
      have HM2 := hid hm2; have HE2 := hid (HE1.out.trans he2); have HF2 := hid (HF1.out.trans hf2)
      have Ia1 := hid ha1
      clear hm2 he2 hf2 ha1 Hc2 HM1 HE1 HF1
      have bq := below1 w2 (.cells #[.int .i64 (a1 : Nat)] 3)
      have HQ := hid (QArg.new HM2.out.base HM2.out.xlt [((a1 : Nat) : Int)] #[.int .i64 (a1 : Nat)] rfl 1 rfl (by simp))
      have HMa := hid (HM2.out.go bq); have HFa := hid (HF2.out.trans (MkFr.of_below bq))
      have hb3 := BMake_any HMa.out ⟨5, [(a1 : Nat)], 0, 0⟩ (.slice (some ⟨w2.heap.size, 0, none⟩) 1 1) false none 0 0 HQ.out (zeroRaw _) (mk_one _ a1 Ia1.out) (by omega) ⟨by simp, by show sz W 0 ≤ 8; rw [sz_zero]; omega⟩
      rw [show plSort _ ⟨5, [(a1 : Nat)], 0, 0⟩ = 1 from rfl] at hb3
      have Hb3 := hid hb3
      clear hb3 HQ bq
      go_wp2_with fail
      refine Hb3.out.mono ?_
      rintro e w3 ⟨x, p3, rfl, hm3, he3, hx, -, hl3, hf3⟩
      have HM3 := hid hm3; have HE3 := hid (HE2.out.trans he3); have HF3 := hid (HFa.out.trans hf3)
      have Ix := hid hx
      clear hm3 he3 hf3 hx Hb3 HM2 HE2 HF2 HMa HFa
      have Hfin := hid (show MkRes W0 X b t vB bs us p n 1 none w (.returned (.int .i64 (x : Nat))) w3 from ⟨x, p3, rfl, HM3.out, HE3.out, Ix.out, (fun x e => by cases e), by omega, HF3.out⟩)
      go_wp2
      go_ret
      exact Hfin.out
    ·
      have Hc2 := hid (HB.out X w1 p1 HM1.out (by omega))
      go_wp2_with fail
      refine Hc2.out.mono ?_
      rintro e w2 ⟨a1, p2, rfl, hm2, he2, ha1, -, hl2, hf2⟩
      have HM2 := hid hm2; have HE2 := hid (HE1.out.trans he2); have HF2 := hid (HF1.out.trans hf2)
      have Ia1 := hid ha1
      clear hm2 he2 hf2 ha1 Hc2 HM1 HE1 HF1
      have Hc3 := hid (HB.out X w2 p2 HM2.out (by omega))
      go_wp2_with fail
      refine Hc3.out.mono ?_
      rintro e w3 ⟨a2, p3, rfl, hm3, he3, ha2, -, hl3, hf3⟩
      have HM3 := hid hm3; have HE3 := hid (HE2.out.trans he3); have HF3 := hid (HF2.out.trans hf3)
      replace Ia1 := hid (Ia1.out.ext he3)
      have Ia2 := hid ha2
      clear hm3 he3 hf3 ha2 Hc3 HM2 HE2 HF2
      have bq := below1 w3 (.cells #[.int .i64 (a1 : Nat), .int .i64 (a2 : Nat)] 3)
      have HQ := hid (QArg.new HM3.out.base HM3.out.xlt [((a1 : Nat) : Int), ((a2 : Nat) : Int)] #[.int .i64 (a1 : Nat), .int .i64 (a2 : Nat)] rfl 2 rfl (by simp))
      have HMa := hid (HM3.out.go bq); have HFa := hid (HF3.out.trans (MkFr.of_below bq))
      have hb4 := BMake_any HMa.out ⟨8, [(a1 : Nat), (a2 : Nat)], 0, 0⟩ (.slice (some ⟨w3.heap.size, 0, none⟩) 2 2) false none 0 0 HQ.out (zeroRaw _) (mk_two _ 8 a1 a2 1 (.inl ⟨rfl, by omega⟩) Ia1.out Ia2.out) (by omega) ⟨by simp, by show sz W 0 ≤ 8; rw [sz_zero]; omega⟩
      rw [show plSort _ ⟨8, [(a1 : Nat), (a2 : Nat)], 0, 0⟩ = 1 from rfl] at hb4
      have Hb4 := hid hb4
      clear hb4 HQ bq
      go_wp2_with fail
      refine Hb4.out.mono ?_
      rintro e w4 ⟨x, p4, rfl, hm4, he4, hx, -, hl4, hf4⟩
      have HM4 := hid hm4; have HE4 := hid (HE3.out.trans he4); have HF4 := hid (HFa.out.trans hf4)
      have Ix := hid hx
      clear hm4 he4 hf4 hx Hb4 HM3 HE3 HF3 HMa HFa
      have Hfin := hid (show MkRes W0 X b t vB bs us p n 1 none w (.returned (.int .i64 (x : Nat))) w4 from ⟨x, p4, rfl, HM4.out, HE4.out, Ix.out, (fun x e => by cases e), by omega, HF4.out⟩)
      go_wp2
      go_ret
      exact Hfin.out
    ·
      have Hc2 := hid (HB.out X w1 p1 HM1.out (by omega))
      go_wp2_with fail
      refine Hc2.out.mono ?_
      rintro e w2 ⟨a0, p2, rfl, hm2, he2, ha0, -, hl2, hf2⟩
      have HM2 := hid hm2; have HE2 := hid (HE1.out.trans he2); have HF2 := hid (HF1.out.trans hf2)
      have Ia0 := hid ha0
      clear hm2 he2 hf2 ha0 Hc2 HM1 HE1 HF1
      have Hc3 := hid (HB.out X w2 p2 HM2.out (by omega))
      go_wp2_with fail
      refine Hc3.out.mono ?_
      rintro e w3 ⟨a1, p3, rfl, hm3, he3, ha1, -, hl3, hf3⟩
      have HM3 := hid hm3; have HE3 := hid (HE2.out.trans he3); have HF3 := hid (HF2.out.trans hf3)
      replace Ia0 := hid (Ia0.out.ext he3)
      have Ia1 := hid ha1
      clear hm3 he3 hf3 ha1 Hc3 HM2 HE2 HF2
      have Hc4 := hid (HB.out X w3 p3 HM3.out (by omega))
      go_wp2_with fail
      refine Hc4.out.mono ?_
      rintro e w4 ⟨a2, p4, rfl, hm4, he4, ha2, -, hl4, hf4⟩
      have HM4 := hid hm4; have HE4 := hid (HE3.out.trans he4); have HF4 := hid (HF3.out.trans hf4)
      replace Ia0 := hid (Ia0.out.ext he4)
      replace Ia1 := hid (Ia1.out.ext he4)
      have Ia2 := hid ha2
      clear hm4 he4 hf4 ha2 Hc4 HM3 HE3 HF3
      have bq := below1 w4 (.cells #[.int .i64 (a0 : Nat), .int .i64 (a1 : Nat), .int .i64 (a2 : Nat)] 3)
      have HQ := hid (QArg.new HM4.out.base HM4.out.xlt [((a0 : Nat) : Int), ((a1 : Nat) : Int), ((a2 : Nat) : Int)] #[.int .i64 (a0 : Nat), .int .i64 (a1 : Nat), .int .i64 (a2 : Nat)] rfl 3 rfl (by simp))
      have HMa := hid (HM4.out.go bq); have HFa := hid (HF4.out.trans (MkFr.of_below bq))
      have hb5 := BMake_any HMa.out ⟨9, [(a0 : Nat), (a1 : Nat), (a2 : Nat)], 0, 0⟩ (.slice (some ⟨w4.heap.size, 0, none⟩) 3 3) false none 0 0 HQ.out (zeroRaw _) (mk_ite _ a0 a1 a2 1 Ia0.out Ia1.out Ia2.out).1 (by omega) ⟨by simp, by show sz W 0 ≤ 8; rw [sz_zero]; omega⟩
      rw [(mk_ite _ a0 a1 a2 1 Ia0.out Ia1.out Ia2.out).2] at hb5
      have Hb5 := hid hb5
      clear hb5 HQ bq
      go_wp2_with fail
      refine Hb5.out.mono ?_
      rintro e w5 ⟨x, p5, rfl, hm5, he5, hx, -, hl5, hf5⟩
      have HM5 := hid hm5; have HE5 := hid (HE4.out.trans he5); have HF5 := hid (HFa.out.trans hf5)
      have Ix := hid hx
      clear hm5 he5 hf5 hx Hb5 HM4 HE4 HF4 HMa HFa
      have Hfin := hid (show MkRes W0 X b t vB bs us p n 1 none w (.returned (.int .i64 (x : Nat))) w5 from ⟨x, p5, rfl, HM5.out, HE5.out, Ix.out, (fun x e => by cases e), by omega, HF5.out⟩)
      go_wp2
      go_ret
      exact Hfin.out
    ·
      have Hc2 := hid (HW.out X w1 p1 HM1.out (by omega))
      go_wp2_with fail
      refine Hc2.out.mono ?_
      rintro e w2 ⟨a1, p2, rfl, hm2, he2, ha1, -, hl2, hf2⟩
      have HM2 := hid hm2; have HE2 := hid (HE1.out.trans he2); have HF2 := hid (HF1.out.trans hf2)
      have Ia1 := hid ha1
      clear hm2 he2 hf2 ha1 Hc2 HM1 HE1 HF1
      have Hc3 := hid (HW.out X w2 p2 HM2.out (by omega))
      go_wp2_with fail
      refine Hc3.out.mono ?_
      rintro e w3 ⟨a2, p3, rfl, hm3, he3, ha2, -, hl3, hf3⟩
      have HM3 := hid hm3; have HE3 := hid (HE2.out.trans he3); have HF3 := hid (HF2.out.trans hf3)
      replace Ia1 := hid (Ia1.out.ext he3)
      have Ia2 := hid ha2
      clear hm3 he3 hf3 ha2 Hc3 HM2 HE2 HF2
      have bq := below1 w3 (.cells #[.int .i64 (a1 : Nat), .int .i64 (a2 : Nat)] 3)
      have HQ := hid (QArg.new HM3.out.base HM3.out.xlt [((a1 : Nat) : Int), ((a2 : Nat) : Int)] #[.int .i64 (a1 : Nat), .int .i64 (a2 : Nat)] rfl 2 rfl (by simp))
      have HMa := hid (HM3.out.go bq); have HFa := hid (HF3.out.trans (MkFr.of_below bq))
      have hb4 := BMake_any HMa.out ⟨10, [(a1 : Nat), (a2 : Nat)], 0, 0⟩ (.slice (some ⟨w3.heap.size, 0, none⟩) 2 2) false none 0 0 HQ.out (zeroRaw _) (mk_two _ 10 a1 a2 2 (.inr ⟨rfl, by omega⟩) Ia1.out Ia2.out) (by omega) ⟨by simp, by show sz W 0 ≤ 8; rw [sz_zero]; omega⟩
      rw [show plSort _ ⟨10, [(a1 : Nat), (a2 : Nat)], 0, 0⟩ = 1 from rfl] at hb4
      have Hb4 := hid hb4
      clear hb4 HQ bq
      go_wp2_with fail
      refine Hb4.out.mono ?_
      rintro e w4 ⟨x, p4, rfl, hm4, he4, hx, -, hl4, hf4⟩
      have HM4 := hid hm4; have HE4 := hid (HE3.out.trans he4); have HF4 := hid (HFa.out.trans hf4)
      have Ix := hid hx
      clear hm4 he4 hf4 hx Hb4 HM3 HE3 HF3 HMa HFa
      have Hfin := hid (show MkRes W0 X b t vB bs us p n 1 none w (.returned (.int .i64 (x : Nat))) w4 from ⟨x, p4, rfl, HM4.out, HE4.out, Ix.out, (fun x e => by cases e), by omega, HF4.out⟩)
      go_wp2
      go_ret
      exact Hfin.out
    ·
      have Hc2 := hid (HW.out X w1 p1 HM1.out (by omega))
      go_wp2_with fail
      refine Hc2.out.mono ?_
      rintro e w2 ⟨a1, p2, rfl, hm2, he2, ha1, -, hl2, hf2⟩
      have HM2 := hid hm2; have HE2 := hid (HE1.out.trans he2); have HF2 := hid (HF1.out.trans hf2)
      have Ia1 := hid ha1
      clear hm2 he2 hf2 ha1 Hc2 HM1 HE1 HF1
      have Hc3 := hid (HW.out X w2 p2 HM2.out (by omega))
      go_wp2_with fail
      refine Hc3.out.mono ?_
      rintro e w3 ⟨a2, p3, rfl, hm3, he3, ha2, -, hl3, hf3⟩
      have HM3 := hid hm3; have HE3 := hid (HE2.out.trans he3); have HF3 := hid (HF2.out.trans hf3)
      replace Ia1 := hid (Ia1.out.ext he3)
      have Ia2 := hid ha2
      clear hm3 he3 hf3 ha2 Hc3 HM2 HE2 HF2
      have bq := below1 w3 (.cells #[.int .i64 (a1 : Nat), .int .i64 (a2 : Nat)] 3)
      have HQ := hid (QArg.new HM3.out.base HM3.out.xlt [((a1 : Nat) : Int), ((a2 : Nat) : Int)] #[.int .i64 (a1 : Nat), .int .i64 (a2 : Nat)] rfl 2 rfl (by simp))
      have HMa := hid (HM3.out.go bq); have HFa := hid (HF3.out.trans (MkFr.of_below bq))
      have hb4 := BMake_any HMa.out ⟨10, [(a1 : Nat), (a2 : Nat)], 0, 0⟩ (.slice (some ⟨w3.heap.size, 0, none⟩) 2 2) false none 0 0 HQ.out (zeroRaw _) (mk_two _ 10 a1 a2 2 (.inr ⟨rfl, by omega⟩) Ia1.out Ia2.out) (by omega) ⟨by simp, by show sz W 0 ≤ 8; rw [sz_zero]; omega⟩
      rw [show plSort _ ⟨10, [(a1 : Nat), (a2 : Nat)], 0, 0⟩ = 1 from rfl] at hb4
      have Hb4 := hid hb4
      clear hb4 HQ bq
      go_wp2_with fail
      refine Hb4.out.mono ?_
      rintro e w4 ⟨x, p4, rfl, hm4, he4, hx, -, hl4, hf4⟩
      have HM4 := hid hm4; have HE4 := hid (HE3.out.trans he4); have HF4 := hid (HFa.out.trans hf4)
      have Ix := hid hx
      clear hm4 he4 hf4 hx Hb4 HM3 HE3 HF3 HMa HFa
      have Hfin := hid (show MkRes W0 X b t vB bs us p n 1 none w (.returned (.int .i64 (x : Nat))) w4 from ⟨x, p4, rfl, HM4.out, HE4.out, Ix.out, (fun x e => by cases e), by omega, HF4.out⟩)
      go_wp2
      go_ret
      exact Hfin.out
    ·
      have Hc2 := hid (HW.out X w1 p1 HM1.out (by omega))
      go_wp2_with fail
      refine Hc2.out.mono ?_
      rintro e w2 ⟨a1, p2, rfl, hm2, he2, ha1, -, hl2, hf2⟩
      have HM2 := hid hm2; have HE2 := hid (HE1.out.trans he2); have HF2 := hid (HF1.out.trans hf2)
      have Ia1 := hid ha1
      clear hm2 he2 hf2 ha1 Hc2 HM1 HE1 HF1
      have Hc3 := hid (HW.out X w2 p2 HM2.out (by omega))
      go_wp2_with fail
      refine Hc3.out.mono ?_
      rintro e w3 ⟨a2, p3, rfl, hm3, he3, ha2, -, hl3, hf3⟩
      have HM3 := hid hm3; have HE3 := hid (HE2.out.trans he3); have HF3 := hid (HF2.out.trans hf3)
      replace Ia1 := hid (Ia1.out.ext he3)
      have Ia2 := hid ha2
      clear hm3 he3 hf3 ha2 Hc3 HM2 HE2 HF2
      have bq := below1 w3 (.cells #[.int .i64 (a1 : Nat), .int .i64 (a2 : Nat)] 3)
      have HQ := hid (QArg.new HM3.out.base HM3.out.xlt [((a1 : Nat) : Int), ((a2 : Nat) : Int)] #[.int .i64 (a1 : Nat), .int .i64 (a2 : Nat)] rfl 2 rfl (by simp))
      have HMa := hid (HM3.out.go bq); have HFa := hid (HF3.out.trans (MkFr.of_below bq))
      have hb4 := BMake_any HMa.out ⟨11, [(a1 : Nat), (a2 : Nat)], 0, 0⟩ (.slice (some ⟨w3.heap.size, 0, none⟩) 2 2) false none 0 0 HQ.out (zeroRaw _) (mk_two _ 11 a1 a2 2 (.inr ⟨rfl, by omega⟩) Ia1.out Ia2.out) (by omega) ⟨by simp, by show sz W 0 ≤ 8; rw [sz_zero]; omega⟩
      rw [show plSort _ ⟨11, [(a1 : Nat), (a2 : Nat)], 0, 0⟩ = 1 from rfl] at hb4
      have Hb4 := hid hb4
      clear hb4 HQ bq
      go_wp2_with fail
      refine Hb4.out.mono ?_
      rintro e w4 ⟨x, p4, rfl, hm4, he4, hx, -, hl4, hf4⟩
      have HM4 := hid hm4; have HE4 := hid (HE3.out.trans he4); have HF4 := hid (HFa.out.trans hf4)
      have Ix := hid hx
      clear hm4 he4 hf4 hx Hb4 HM3 HE3 HF3 HMa HFa
      have Hfin := hid (show MkRes W0 X b t vB bs us p n 1 none w (.returned (.int .i64 (x : Nat))) w4 from ⟨x, p4, rfl, HM4.out, HE4.out, Ix.out, (fun x e => by cases e), by omega, HF4.out⟩)
      go_wp2
      go_ret
      exact Hfin.out
    ·
      have Hc2 := hid (HW.out X w1 p1 HM1.out (by omega))
      go_wp2_with fail
      refine Hc2.out.mono ?_
      rintro e w2 ⟨a1, p2, rfl, hm2, he2, ha1, -, hl2, hf2⟩
      have HM2 := hid hm2; have HE2 := hid (HE1.out.trans he2); have HF2 := hid (HF1.out.trans hf2)
      have Ia1 := hid ha1
      clear hm2 he2 hf2 ha1 Hc2 HM1 HE1 HF1
      have Hc3 := hid (HW.out X w2 p2 HM2.out (by omega))
      go_wp2_with fail
      refine Hc3.out.mono ?_
      rintro e w3 ⟨a2, p3, rfl, hm3, he3, ha2, -, hl3, hf3⟩
      have HM3 := hid hm3; have HE3 := hid (HE2.out.trans he3); have HF3 := hid (HF2.out.trans hf3)
      replace Ia1 := hid (Ia1.out.ext he3)
      have Ia2 := hid ha2
      clear hm3 he3 hf3 ha2 Hc3 HM2 HE2 HF2
      have bq := below1 w3 (.cells #[.int .i64 (a1 : Nat), .int .i64 (a2 : Nat)] 3)
      have HQ := hid (QArg.new HM3.out.base HM3.out.xlt [((a1 : Nat) : Int), ((a2 : Nat) : Int)] #[.int .i64 (a1 : Nat), .int .i64 (a2 : Nat)] rfl 2 rfl (by simp))
      have HMa := hid (HM3.out.go bq); have HFa := hid (HF3.out.trans (MkFr.of_below bq))
      have hb4 := BMake_any HMa.out ⟨11, [(a1 : Nat), (a2 : Nat)], 0, 0⟩ (.slice (some ⟨w3.heap.size, 0, none⟩) 2 2) false none 0 0 HQ.out (zeroRaw _) (mk_two _ 11 a1 a2 2 (.inr ⟨rfl, by omega⟩) Ia1.out Ia2.out) (by omega) ⟨by simp, by show sz W 0 ≤ 8; rw [sz_zero]; omega⟩
      rw [show plSort _ ⟨11, [(a1 : Nat), (a2 : Nat)], 0, 0⟩ = 1 from rfl] at hb4
      have Hb4 := hid hb4
      clear hb4 HQ bq
      go_wp2_with fail
      refine Hb4.out.mono ?_
      rintro e w4 ⟨x, p4, rfl, hm4, he4, hx, -, hl4, hf4⟩
      have HM4 := hid hm4; have HE4 := hid (HE3.out.trans he4); have HF4 := hid (HFa.out.trans hf4)
      have Ix := hid hx
      clear hm4 he4 hf4 hx Hb4 HM3 HE3 HF3 HMa HFa
      have Hfin := hid (show MkRes W0 X b t vB bs us p n 1 none w (.returned (.int .i64 (x : Nat))) w4 from ⟨x, p4, rfl, HM4.out, HE4.out, Ix.out, (fun x e => by cases e), by omega, HF4.out⟩)
      go_wp2
      go_ret
      exact Hfin.out
    ·
      have Hc2 := hid (HZ.out X w1 p1 HM1.out (by omega))
      go_wp2_with fail
      refine Hc2.out.mono ?_
      rintro e w2 ⟨a1, p2, rfl, hm2, he2, ha1, -, hl2, hf2⟩
      have HM2 := hid hm2; have HE2 := hid (HE1.out.trans he2); have HF2 := hid (HF1.out.trans hf2)
      have Ia1 := hid ha1
      clear hm2 he2 hf2 ha1 Hc2 HM1 HE1 HF1
      have Ha3 := hid (app_any HM2.out m 1 1 deep a1 (by omega) (by constructor <;> omega) (fun _ => HW.out) (by omega) Ia1.out)
      go_wp2_with fail
      refine Ha3.out.mono ?_
      rintro e w3 ⟨y, p3, rfl, hm3, he3, hy, -, hl3, hf3⟩
      have HM3 := hid hm3; have HE3 := hid (HE2.out.trans he3); have HF3 := hid (HF2.out.trans hf3)
      have Iy := hid hy
      clear hm3 he3 hf3 hy Ha3
      have Hfin := hid (show MkRes W0 X b t vB bs us p n 1 none w (.returned (.int .i64 (y : Nat))) w3 from ⟨y, p3, rfl, HM3.out, HE3.out, Iy.out, (fun x e => by cases e), by omega, HF3.out⟩)
      go_wp2
      go_ret
      exact Hfin.out
end Go.Proofs.YtckkpolikdnilaaGreatDoor
/- elenchusmake's rows, whole: Syms, Start, Rows. -/
namespace Go.Proofs.YtckkpolikdnilaaGreatDoor
open Go.RowKit Big Go.WideMaps

theorem mk_all {W0 : World} {b t : Nat} {vB : Value} {bs : List Nat} {us : List Int} : ∀ d : Nat, d ≤ 100 →
    (∀ X w p, MkAt W0 X w b t vB bs p us → p.terms.length + mkN d ≤ 4096 → Calls Tryz.prog 42 #[.pointer (some ⟨b, 0, none⟩), .int .i64 (d : Nat)] w (MkRes W0 X b t vB bs us p (mkN d) 2 none w)) ∧
    (∀ X w p, MkAt W0 X w b t vB bs p us → p.terms.length + mkN d ≤ 4096 → Calls Tryz.prog 24 #[.pointer (some ⟨b, 0, none⟩), .int .i64 (d : Nat)] w (MkRes W0 X b t vB bs us p (mkN d) 1 none w))
  | 0, _ => ⟨fun X w p h hn => Whole_step h 0 0 2 (by omega) (by omega) (by omega) (by omega) hn (fun h => by omega) (fun h => by omega) (fun h => by omega),
      fun X w p h hn => Bool_step h 0 0 2 (by omega) (by omega) (by omega) (by omega) hn (fun h => by omega) (fun h => by omega) (fun h => by omega)⟩
  | d + 1, hd => by
    have ih := mk_all (W0 := W0) (b := b) (t := t) (vB := vB) (bs := bs) (us := us) d (by omega)
    have i0 := mk_all (W0 := W0) (b := b) (t := t) (vB := vB) (bs := bs) (us := us) 0 (by omega)
    have e : (((d + 1 : Nat) : Int)) - 1 = (d : Nat) := by omega
    have hN : mkN (d + 1) = 3 * mkN d + 3 := rfl
    refine ⟨fun X w p h hn => Whole_step h ((d + 1 : Nat) : Int) (mkN d) (mkN (d + 1)) (by omega) (by omega) (by omega) (fun _ => by omega) hn (fun _ => ?_) (fun _ => ?_) (fun _ => i0.1),
      fun X w p h hn => Bool_step h ((d + 1 : Nat) : Int) (mkN d) (mkN (d + 1)) (by omega) (by omega) (by omega) (fun _ => by omega) hn (fun _ => ?_) (fun _ => ?_) (fun _ => i0.2)⟩
    · rw [e]; exact ih.1
    · rw [e]; exact ih.2
    · rw [e]; exact ih.1
    · rw [e]; exact ih.2
/-- the usual symbols -/
def mkSyms : List Sy := [⟨[112], 0, 1⟩, ⟨[113], 0, 1⟩, ⟨[120], 0, 2⟩, ⟨[121], 0, 2⟩, ⟨[122], 0, 2⟩, ⟨[102], 1, 2⟩, ⟨[103], 2, 1⟩]
set_option maxRecDepth 100000 in
set_option maxHeartbeats 3200000 in
theorem Syms_any (w : World) : Calls Tryz.prog 45 #[] w (fun e w' => ∃ v, e = .returned v ∧ w'.ownsRow w.heap.size 39 3 v mkSyms.length (syCells mkSyms) ∧ Below w.heap.size w w') := by
  go_enter Tryz.func45, Tryz.ntmps45
  go_wp2
  go_ret
  refine ⟨_, rfl, ⟨rfl, .inr ⟨w.heap.size, 7, _, rfl, Nat.le_refl _, heap_alloc_new w _, by decide, by simp [maxLen], by simp, by rfl⟩⟩, below1 _ _⟩
def zr (k : Nat) : List Int := (List.range k).map fun (n : Nat) => (n : Int)
theorem zr_len (k : Nat) : (zr k).length = k := by simp [zr]
theorem zr_succ (k : Nat) : zr (k + 1) = zr k ++ [((k : Nat) : Int)] := by simp [zr, List.range_succ]
theorem MkP.empty (s : List Sy) (hs : s.length ≤ 256) : MkP ⟨s, [], []⟩ := ⟨⟨rfl, by simp, hs, fun k h => absurd h (by simp)⟩, ⟨rfl, fun k h => absurd h (by simp)⟩, fun t h => absurd h (by simp)⟩
/-- the loop of Start -/
theorem MkParts.more {W0 w w' : World} {b t : Nat} {vB : Value} {bs : List Nat} {s : List Sy} {us us' : List Int} {vs vy vy' : Value} (h : MkParts W0 (fun _ => False) w b t vB bs ⟨s, [], []⟩ us vs (.slice none 0 0) vy) (hA : Apart (fun k => vy.ownBlock = some k) w w') (hr : w'.ownsRow W0.heap.size 3 1 vy' us'.length (zints us'))
    (hu : ∀ k ∈ us', ∃ j : Nat, k = (j : Nat) ∧ j < s.length) (hf : us'.length ≤ 256) : MkParts W0 (fun _ => False) (w'.setCell ⟨b, 3, none⟩ vy') b t vB bs ⟨s, [], []⟩ us' vs (.slice none 0 0) vy' := by
  have hne : ∀ (k : Nat) (c : Array Value) (ty : TypeId), w.heap[k]? = some (.cells c ty (0, 0)) → ty ≠ 3 → w'.heap[k]? = w.heap[k]? := fun k c ty hc h1 => hA.block k (lt_of_block hc) (fun hs => by
    obtain ⟨c', hc'⟩ := row_tag h.used k hs
    exact tag_ne hc hc' h1 rfl)
  have hcb := (hne b _ _ h.cell (by decide)).trans h.cell
  have F : ∀ k, k ≠ b → (w'.setCell ⟨b, 3, none⟩ vy').heap[k]? = w'.heap[k]? := fun k hk => Below.heap_setCell _ _ _ _ hk
  refine ⟨?_, h.ge, by simpa using heap_setCell_same w' b 3 _ _ vy' hcb, row_stays h.syms fun k hk => ?_, ⟨[], World.ownsRow_nil _ _ _ _, rfl⟩, row_stays hr fun k hk => ?_, h.mkp, hu, h.arity, hf, (fun k hk => hk.elim), fun k _ hk => hk⟩
  · obtain ⟨h1, h2, h3, h4, a, ha, hc⟩ := h.tp
    refine ⟨h1, h2, h3, (h4.trans (hA.below h4.size (fun k hk => (World.ownsRow.lt h.used k hk).1))).setCell (p := ⟨b, 3, none⟩) h.ge vy', a, ha, (F t (tag_ne hc h.cell (by decide))).trans ((hne t _ _ hc (by decide)).trans hc)⟩
  · obtain ⟨c, hc⟩ := row_tag h.syms k hk
    exact (F k (tag_ne hc h.cell (by decide))).trans (hne k c _ hc (by decide))
  · obtain ⟨c, hc⟩ := row_tag hr k hk
    exact F k (tag_ne hc hcb (by decide))
set_option maxRecDepth 100000 in
set_option maxHeartbeats 3200000 in
theorem Start_any {W0 w : World} {t : Nat} {vB : Value} {bs : List Nat} (h : TpIn W0 w t vB bs) : Calls Tryz.prog 23 #[.pointer (some ⟨t, 0, none⟩)] w (fun e w' => ∃ b, e = .returned (.pointer (some ⟨b, 0, none⟩)) ∧ MkAt W0 (fun _ => False) w' b t vB bs ⟨mkSyms, [], []⟩ (zr 7) ∧ Below w.heap.size w w') := by
  have HT := hid h
  have hW0 := h.2.2.2.1.size
  clear h
  go_enter Tryz.func23, Tryz.ntmps23
  go_wp2_with fail
  refine (Syms_any w).mono ?_
  rintro e w1 ⟨v, rfl, hs, b1⟩
  obtain ⟨ps, cs, rfl⟩ := ownsRow_shape hs
  have hL : mkSyms.length = 7 := rfl
  rw [hL] at hs ⊢
  have b2 := below1 w1 (.cells #[.slice ps 7 cs, .slice none 0 0, .pointer (some ⟨t, 0, none⟩), .slice none 0 0] 73)
  have hc2 := heap_alloc_new w1 (.cells #[.slice ps 7 cs, .slice none 0 0, .pointer (some ⟨t, 0, none⟩), .slice none 0 0] 73)
  have hz1 := b1.size
  have H2 : Hid (MkParts W0 (fun _ => False) (w1.alloc (.cells #[.slice ps 7 cs, .slice none 0 0, .pointer (some ⟨t, 0, none⟩), .slice none 0 0] 73)) w1.heap.size t vB bs ⟨mkSyms, [], []⟩ (zr 0) (.slice ps 7 cs) (.slice none 0 0) (.slice none 0 0)) := hid
    ⟨(HT.out.go b1).go b2, by omega, hc2, ownsRow_later (ownsRow_mono hs hW0) b2, ⟨[], World.ownsRow_nil _ _ _ _, rfl⟩, World.ownsRow_nil _ _ _ _, MkP.empty _ (by decide), (fun k h => absurd h (by simp [zr])), (by decide), by simp [zr], (fun k hk => hk.elim), fun k hk => by cases hk⟩
  have HB2 := hid (bel_go b2 b1)
  have q4 := four_cells hc2
  obtain ⟨k0, k1, k2, k3⟩ := q4
  clear hs b1 b2 hc2
  go_upto_region 2 with fail
  generalize hW : (w1.alloc (.cells #[.slice ps 7 cs, .slice none 0 0, .pointer (some ⟨t, 0, none⟩), .slice none 0 0] 73)) = w2 at *
  clear hW
  go_wp2_with fail
  go_loopw [16] (fun i wr => ∃ k : Nat, k ≤ 7 ∧ i = .int .i64 (k : Nat) ∧ Hid (∃ vy, MkParts W0 (fun _ => False) wr w1.heap.size t vB bs ⟨mkSyms, [], []⟩ (zr k) (.slice ps 7 cs) (.slice none 0 0) vy ∧ ∀ i, vy.ownBlock = some i → w.heap.size ≤ i) ∧ Hid (Below w.heap.size w wr)) (fun i _ => 7 - (intOf i).toNat)
  case atStart => exact ⟨0, by omega, rfl, hid ⟨_, H2.out, fun i hi => by cases hi⟩, HB2⟩
  case round =>
    obtain ⟨k, hk, rfl, Hk, Hb⟩ := hrel
    obtain ⟨vy, H, hvy⟩ := Hk.out
    have q4 := four_cells H.cell
    clear k0 k1 k2 k3
    obtain ⟨k0, k1, k2, k3⟩ := q4
    have f3 := frozen_all H.cell 3
    obtain ⟨py, cy, rfl⟩ := ownsRow_shape H.used
    rw [zr_len] at k3 H hvy
    by_cases hlt : k < 7
    · have hlt' : (k : Int) < 7 := by omega
      have b1 := below1 wr (.cells #[.int .i64 (k : Nat)] 3)
      have hbl := lt_of_block H.cell
      have H1 := H.go b1
      have hu1 := H1.used
      have hi1 := IAt.one wr (k : Nat)
      have hbz := H1.tp.2.2.2.1.size
      have hzl := zr_len k
      have hZl := hid hzl
      have hzl1 : (zr k).length ≤ 7 := by omega
      have HH1 := hid H1
      have hcb1 := H1.cell
      have hbl1 := lt_of_block hcb1
      clear hzl H H1
      go_wp2_with (at_builtin; refine wpList_append_zints_g rfl _ _ 69 rfl elemInts W0.heap.size _ (zr k) rfl hu1 _ [((k : Nat) : Int)] rfl hi1 (by simp) (by simp [maxLen]; omega) (by simp; omega) hbz ?_; intro v5 w5 ho5 hA5 hv5; obtain ⟨p5, c5, rfl⟩ := ownsRow_shape ho5; have hcb5 := (hA5.block w1.heap.size hbl1 (row_ne hu1 hcb1 (by decide) _ · rfl)).trans hcb1; have q5 := four_cells hcb5; obtain ⟨y0, y1, y2, y3⟩ := q5; have z3 := frozen_all hcb5 3)
      have hm5 := HH1.out.more hA5 (us' := zr (k + 1)) (by rw [zr_succ]; exact ho5) (fun x hx => by
        obtain ⟨n, hn, rfl⟩ := List.mem_map.1 hx
        exact ⟨n, rfl, by have := List.mem_range.1 hn; show n < 7; omega⟩) (by rw [zr_len]; omega)
      have hbb := (hA5.below (B := w.heap.size) (by have := b1.size; have := Hb.out.size; omega) (fun i hi => hvy i hi))
      have hwb : w.heap.size ≤ w1.heap.size := hz1
      have Hrel := hid (show (∃ vy, MkParts W0 (fun _ => False) (w5.setCell ⟨w1.heap.size, 3, none⟩ (.slice p5 (zr k ++ [((k : Nat) : Int)]).length c5)) w1.heap.size t vB bs ⟨mkSyms, [], []⟩ (zr (k + 1)) (.slice ps 7 cs) (.slice none 0 0) vy ∧ ∀ i, vy.ownBlock = some i → w.heap.size ≤ i) ∧ Below w.heap.size w (w5.setCell ⟨w1.heap.size, 3, none⟩ (.slice p5 (zr k ++ [((k : Nat) : Int)]).length c5)) from
        ⟨⟨_, hm5, fun i hi => by
          rcases hv5 with e | e
          · rw [e] at hi; exact hvy i hi
          · rw [e] at hi
            have hi : _ = i := Option.some.inj hi
            have := Hb.out.size; have := b1.size; omega⟩, ((bel_go b1 Hb.out).trans hbb).setCell (p := ⟨w1.heap.size, 3, none⟩) hwb _⟩)
      clear hm5 hbb hA5 hv5 ho5
      go_roundw
      case rel =>
        have hr := Hrel.out
        simp only [List.length_append, List.length_cons, List.length_nil, Nat.zero_add] at hr
        exact ⟨k + 1, by omega, rfl, hid hr.1, hid hr.2⟩
      case measure => simp [intOf]; omega
    · have hkk : k = 7 := by omega
      subst hkk
      clear H f3
      go_wp2
      go_ret
      obtain ⟨vy', H', -⟩ := Hk.out
      exact ⟨_, rfl, ⟨_, _, _, H'⟩, Hb.out⟩
set_option maxRecDepth 100000 in
set_option maxHeartbeats 3200000 in
theorem Rows_mk {W0 w : World} {t : Nat} {vB : Value} {bs : List Nat} (h : TpIn W0 w t vB bs) : Calls Tryz.prog 17 #[.pointer (some ⟨t, 0, none⟩)] w (fun e w' => ∃ v p, e = .returned v ∧ RwIn w' v p.syms p.terms ∧ MkP p ∧ p.syms = mkSyms ∧ Below W0.heap.size W0 w' ∧ MkFr w w') := by
  have b0 := below1 w (.cells #[.slice none 0 0, .slice none 0 0] 25)
  have hr0 := heap_alloc_new w (.cells #[.slice none 0 0, .slice none 0 0] 25)
  have hz0 := size_alloc w (.cells #[.slice none 0 0, .slice none 0 0] 25)
  have HS := hid (Start_any (h.go b0))
  have htl := h.2.2.2.2.lt
  have hWw := h.2.2.2.1.size
  have F0 := hid (MkFr.of_below b0)
  clear h b0
  go_enter Tryz.func17, Tryz.ntmps17
  go_wp2_with fail
  generalize hW : (w.alloc (.cells #[.slice none 0 0, .slice none 0 0] 25)) = W1 at *
  clear hW
  refine HS.out.mono ?_
  rintro e w1 ⟨b, rfl, hm1, b1⟩
  have HM1 := hid hm1; have HF1 := hid (F0.out.trans (MkFr.of_below b1))
  have hr1 := (b1.block w.heap.size (by omega)).trans hr0
  have Hn := hid (Next_in 4 hm1.tp (by decide))
  clear hm1 b1 hr0 HS F0
  go_wp2_with fail
  refine Hn.out.mono ?_
  rintro e w2 ⟨k0, rfl, hk0, ht2, hA2⟩
  have hk4 : k0 < 4 := by omega
  have hf2 := HM1.out.tp.fr hA2
  have hr2 := hf2.cells hr1 (by decide) (by decide) (by decide)
  have Hat : Hid (∃ p, MkAt W0 (fun _ => False) w2 b t vB bs p (zr 7) ∧ p.syms = mkSyms ∧ p.terms.length ≤ (k0 - k0) * 93 ∧ MkFr w w2 ∧ w2.heap[w.heap.size]? = some (.cells #[.slice none 0 0, .slice none 0 0] 25 (0, 0))) := hid ⟨_, HM1.out.next ht2 hA2, rfl, by simp, HF1.out.trans hf2, hr2⟩
  clear ht2 hA2 hf2 hr1 hr2 HM1 HF1 Hn hk0
  have H3 := mk_all (W0 := W0) (b := b) (t := t) (vB := vB) (bs := bs) (us := zr 7) 3 (by omega)
  have hN3 : mkN 3 = 93 := by decide
  rw [hN3] at H3
  have HW3 := hid H3.1; have HB3 := hid H3.2
  clear H3 hN3
  go_wp2_with fail
  go_loopw [4] (fun i wr => ∃ k : Int, -1 ≤ k ∧ k ≤ (k0 : Nat) ∧ i = .int .i64 k ∧ Hid (∃ p, MkAt W0 (fun _ => False) wr b t vB bs p (zr 7) ∧ p.syms = mkSyms ∧ (p.terms.length : Int) ≤ ((k0 : Nat) - k) * 93 ∧ MkFr w wr ∧ wr.heap[w.heap.size]? = some (.cells #[.slice none 0 0, .slice none 0 0] 25 (0, 0)))) (fun i _ => (intOf i + 1).toNat)
  case atStart => exact ⟨(k0 : Nat), by omega, by omega, rfl, hid (by obtain ⟨p, h1, h2, h3, h4⟩ := Hat.out; exact ⟨p, h1, h2, by simp at h3 ⊢; simp [h3], h4⟩)⟩
  case round =>
    obtain ⟨k, hkm, hkk, rfl, Hk⟩ := hrel
    obtain ⟨p, hm, hsy, hl, hf, hr⟩ := Hk.out
    have HM := hid hm; have HF := hid hf; have Hsy := hid hsy; have Hr := hid hr
    by_cases hge : 0 ≤ k
    · have hged : decide (0 ≤ k) = true := by simp [hge]
      have Hn := hid (Next_in 2 hm.tp (by decide))
      clear hm hf hsy hr Hk Hat
      go_wp2_with fail
      refine Hn.out.mono ?_
      rintro e w3 ⟨q, rfl, hq, ht3, hA3⟩
      have hf3 := HM.out.tp.fr hA3
      have HM3 := hid (HM.out.next ht3 hA3); have HF3 := hid (HF.out.trans hf3); have Hr3 := hid (hf3.cells Hr.out (by decide) (by decide) (by decide))
      have hlen : p.terms.length + 93 ≤ 4096 := by omega
      have Hcw := hid (HW3.out _ w3 p HM3.out hlen); have Hcb := hid (HB3.out _ w3 p HM3.out hlen)
      clear ht3 hA3 hf3 Hn HM HF Hr
      rcases (show q = 0 ∨ q = 1 by omega) with rfl | rfl
      · go_wp2_with fail
        refine Hcb.out.mono ?_
        rintro e w4 ⟨x, p4, rfl, hm4, he4, hx4, -, hl4, hf4⟩
        have HK := hid (show ∃ p, MkAt W0 (fun _ => False) w4 b t vB bs p (zr 7) ∧ p.syms = mkSyms ∧ (p.terms.length : Int) ≤ ((k0 : Nat) - (k - 1)) * 93 ∧ MkFr w w4 ∧ w4.heap[w.heap.size]? = some (.cells #[.slice none 0 0, .slice none 0 0] 25 (0, 0)) from ⟨p4, hm4, he4.1.trans Hsy.out, by omega, HF3.out.trans hf4, hf4.cells Hr3.out (by decide) (by decide) (by decide)⟩)
        clear hm4 he4 hx4 hf4
        go_wp2_with fail
        go_roundw
        case rel => exact ⟨k - 1, by omega, by omega, rfl, HK⟩
        case measure => simp [intOf]; omega
      · go_wp2_with fail
        refine Hcw.out.mono ?_
        rintro e w4 ⟨x, p4, rfl, hm4, he4, hx4, -, hl4, hf4⟩
        have HK := hid (show ∃ p, MkAt W0 (fun _ => False) w4 b t vB bs p (zr 7) ∧ p.syms = mkSyms ∧ (p.terms.length : Int) ≤ ((k0 : Nat) - (k - 1)) * 93 ∧ MkFr w w4 ∧ w4.heap[w.heap.size]? = some (.cells #[.slice none 0 0, .slice none 0 0] 25 (0, 0)) from ⟨p4, hm4, he4.1.trans Hsy.out, by omega, HF3.out.trans hf4, hf4.cells Hr3.out (by decide) (by decide) (by decide)⟩)
        clear hm4 he4 hx4 hf4
        go_wp2_with fail
        go_roundw
        case rel => exact ⟨k - 1, by omega, by omega, rfl, HK⟩
        case measure => simp [intOf]; omega
    · have hged : decide (0 ≤ k) = false := by simp; omega
      obtain ⟨vs, vr, vy, H⟩ := hm
      obtain ⟨ps, cs, rfl⟩ := ownsRow_shape H.syms
      obtain ⟨pr, cr, rfl⟩ := H.rows.shape
      have q4 := four_cells H.cell
      obtain ⟨y0, y1, y2, y3⟩ := q4
      have q2 := two_cells hr
      obtain ⟨r0, r1, f0, f1⟩ := q2
      have hne : ∀ (k : Nat) (c : Array Value) (ty : TypeId), wr.heap[k]? = some (.cells c ty (0, 0)) → ty ≠ 25 → ((wr.setCell ⟨w.heap.size, 0, none⟩ (.slice ps p.syms.length cs)).setCell ⟨w.heap.size, 1, none⟩ (.slice pr p.terms.length cr)).heap[k]? = wr.heap[k]? := fun k c ty hc ht => (Below.heap_setCell _ _ _ _ (tag_ne hc hr ht)).trans (Below.heap_setCell _ _ _ _ (tag_ne hc hr ht))
      have hrw : RwIn ((wr.setCell ⟨w.heap.size, 0, none⟩ (.slice ps p.syms.length cs)).setCell ⟨w.heap.size, 1, none⟩ (.slice pr p.terms.length cr)) (.agg #[.slice ps p.syms.length cs, .slice pr p.terms.length cr]) p.syms p.terms := by
        refine ⟨_, _, rfl, (SyAt.own (row_stays (ownsRow_mono H.syms (Nat.zero_le _)) fun k hk => ?_)).handed, ?_⟩
        · obtain ⟨c, hc⟩ := row_tag H.syms k hk
          exact hne k c _ hc (by decide)
        · refine MfIn.tms (Q := QArg W0 (fun _ => False) ((wr.setCell ⟨w.heap.size, 0, none⟩ (.slice ps p.syms.length cs)).setCell ⟨w.heap.size, 1, none⟩ (.slice pr p.terms.length cr))) ((H.rows.stays (fun k c ty hc _ hk => ?_) (fun k c hc => hne k c _ hc (by decide))).q fun va l q => ⟨row_stays q.1 fun k hk => ?_, q.2⟩) (fun va l q => IAt.own (ownsRow_mono q.1 (Nat.zero_le _))) (fun x hx => Nat.le_trans (H.mkp.small x hx).2 (by decide))
          · rcases hk with rfl | hk
            · exact hne k c _ hc (by decide)
            · obtain ⟨cs', hr', -⟩ := H.rows
              obtain ⟨c', hc'⟩ := row_tag hr' k hk
              exact hne k c' _ hc' (by decide)
          · obtain ⟨c, hc⟩ := row_tag q.1 k hk
            exact hne k c _ hc (by decide)
      have hbw : Below W0.heap.size W0 ((wr.setCell ⟨w.heap.size, 0, none⟩ (.slice ps p.syms.length cs)).setCell ⟨w.heap.size, 1, none⟩ (.slice pr p.terms.length cr)) := (H.tp.2.2.2.1.setCell (p := ⟨w.heap.size, 0, none⟩) hWw _).setCell (p := ⟨w.heap.size, 1, none⟩) hWw _
      have hfw := (hf.setNew (p := ⟨w.heap.size, 0, none⟩) (Nat.le_refl _) (.slice ps p.syms.length cs)).setNew (p := ⟨w.heap.size, 1, none⟩) (Nat.le_refl _) (.slice pr p.terms.length cr)
      have hs2 := set2_same hr (.slice ps p.syms.length cs) (.slice pr p.terms.length cr)
      have Hfin := hid (And.intro hrw (And.intro H.mkp (And.intro hsy (And.intro hbw hfw))))
      have q2 := two_cells hs2
      obtain ⟨s0, s1, -, -⟩ := q2
      clear hrw hbw hfw hs2 H hne hr hf hsy hl Hk HM HF Hsy Hr Hat
      go_wp2
      refine bodyPost_ret (v := .agg #[.slice ps p.syms.length cs, .slice pr p.terms.length cr]) (by simp [results, Tryz.results17, go_sem, s0, s1]) rfl ?_
      exact ⟨_, rfl, p, Hfin.out⟩
end Go.Proofs.YtckkpolikdnilaaGreatDoor
/- elenchusmake.Model. -/
namespace Go.Proofs.YtckkpolikdnilaaGreatDoor
open Go.RowKit Big Go.WideMaps

theorem infoRow5 : (Tryz.prog.info? 63).map (fun i => (i.zero, i.size, i.bytes)) = some (some (.agg #[.slice none 0 0, .bool false, .slice none 0 0]), 3, 56) := by kernel_rfl
theorem infoTable5 : (Tryz.prog.info? 46).map (fun i => (i.zero, i.size, i.bytes)) = some (some (.agg #[.slice none 0 0, .bool false, .slice none 0 0]), 3, 56) := by kernel_rfl
theorem one_cell {w : World} {g : Nat} {a : Value} {t : TypeId} (h : w.heap[g]? = some (.cells #[a] t (0, 0))) : w.cell? ⟨g, 0, none⟩ = some a ∧ w.frozen? ⟨g, 0, none⟩ = false := by
  constructor
  · rw [cell_of_row _ _ _ _ _ _ h]; rfl
  · simp [World.frozen?, h]
set_option maxRecDepth 100000 in
set_option maxHeartbeats 25600000 in
theorem Model_any {W0 w : World} {t : Nat} {vB : Value} {bs : List Nat} (h : TpIn W0 w t vB bs) (vs : Value) (syms : List Sy) (hs : ∀ w', Apart (fun i => i = t) w w' → SyIn w' vs syms) (har : ∀ s ∈ syms, s.arity ≤ 4) (hlen : syms.length ≤ 1000) :
    Calls Tryz.prog 18 #[.pointer (some ⟨t, 0, none⟩), vs] w (fun e w' => ∃ v ts, e = .returned (.agg #[v]) ∧ OwnTabs w.heap.size w' v ts ∧ ts.length = syms.length ∧ (∀ x ∈ ts, TSm x) ∧ TpIn W0 w' t vB bs ∧ Apart (fun i => i = t) w w') := by
  obtain ⟨i0, hi, hz0, hz1, hz2⟩ := info_parts infoNum
  obtain ⟨i1, hiR, hr0, hr1, hr2⟩ := info_parts infoRow5
  obtain ⟨i2, hiT, ht0, ht1, ht2⟩ := info_parts infoTable5
  have HS := hid hs; have HAr := hid har
  have hW0 := h.2.2.2.1.size
  have htl := h.2.2.2.2.lt
  have htW := h.2.2.1
  obtain ⟨ps, cs, rfl, s1, s2, -, -⟩ := hs w (Apart.refl _ _)
  unfold maxLen at s2
  obtain ⟨W, hW⟩ : ∃ W, W = (w.alloc (.cells #[.slice none 0 0] 28)).alloc (.cells #[.slice none 0 0] 28) := ⟨_, rfl⟩
  have b0 : Below w.heap.size w W := by rw [hW]; exact (below1 w _).alloc (by simp) _
  have e0 : W.heap[w.heap.size]? = some (.cells #[.slice none 0 0] 28 (0, 0)) := by rw [hW]; exact alloc_keep (alloc_at _ _ _ rfl)
  have e1 : W.heap[w.heap.size + 1]? = some (.cells #[.slice none 0 0] 28 (0, 0)) := by rw [hW]; exact alloc_at _ _ _ (by rw [size_alloc])
  have z0 : W.heap.size = w.heap.size + 1 + 1 := by rw [hW, size_alloc, size_alloc]
  have HT := hid (h.go b0)
  have HA := hid (Apart.of_below (S := fun i => i = t) b0)
  have E0 := hid e0; have E1 := hid e1
  obtain ⟨S, hS⟩ : ∃ S, S = syms.length := ⟨_, rfl⟩
  have HSl := hid hS
  rw [← hS] at s1 hlen ⊢
  clear hs har h e0 e1 b0 hS
  go_enter Tryz.func18, Tryz.ntmps18
  go_upto_region 2 with fail
  rw [← hW]
  clear hW
  go_wp2_with fail
  go_loopw [13] (fun i wr => ∃ k : Nat, k ≤ S ∧ i = .int .i64 (k : Nat) ∧ Hid (∃ p c ts, wr.heap[w.heap.size + 1]? = some (.cells #[.slice p ts.length c] 28 (0, 0)) ∧ OwnTabs w.heap.size wr (.slice p ts.length c) ts ∧ ts.length = k ∧ ∀ x ∈ ts, TSm x) ∧ Hid (TpIn W0 wr t vB bs) ∧ Hid (Apart (fun i => i = t) w wr) ∧ Hid (wr.heap[w.heap.size]? = some (.cells #[.slice none 0 0] 28 (0, 0)))) (fun i _ => S - (intOf i).toNat)
  case atStart => exact ⟨0, Nat.zero_le _, rfl, hid ⟨none, 0, [], E1.out, OwnLs.nil .., rfl, by simp⟩, HT, HA, E0⟩
  case round =>
    clear HT HA E0 E1 z0
    obtain ⟨k, hk, rfl, hM, hT, hA, hR⟩ := hrel
    by_cases hlt : k < S
    · have hkl : k < syms.length := by rw [← HSl.out]; exact hlt
      have hlt' : (k : Int) < (S : Int) := by omega
      have hsy := HS.out wr hA.out
      obtain ⟨ps', cs', e, -, -, -, i3⟩ := hsy
      rw [← HSl.out] at e
      injection e with f1 _ f3
      subst f1 f3
      obtain ⟨b, o, rfl, hb, hc⟩ := i3 (by omega)
      obtain ⟨k0, k1, k2⟩ := hc k hkl
      have har4 := HAr.out syms[k] (List.getElem_mem hkl)
      have hsize := hA.out.size
      generalize syms[k].arity = ar at *
      generalize syms[k].sort = so at *
      generalize (⟨syms[k].name.toArray⟩ : ByteArray) = nm at *
      have b4 := below1 wr (.cells #[.string nm, .int .i64 ar, .int .i64 so] 39)
      have n4 := heap_alloc_new wr (.cells #[.string nm, .int .i64 ar, .int .i64 so] 39)
      have z4 := size_alloc wr (.cells #[.string nm, .int .i64 ar, .int .i64 so] 39)
      generalize hW4 : wr.alloc (.cells #[.string nm, .int .i64 ar, .int .i64 so] 39) = W4 at *
      have HT4 := hid (hT.out.go b4)
      have HA4 := hid (Apart.of_below (S := fun i => i = t) b4)
      have N4 := hid n4
      clear hc i3 hb b4 n4
      go_wp2_with fail
      clear k0 k1 k2
      refine (Next_in 9 HT4.out (by decide)).mono ?_
      rintro e w5 ⟨k9, rfl, hk9, ht5, hA5⟩
      have hk9' : (k9 : Int) ≤ 8 := by omega
      have hf5 := HT4.out.offT hA5
      have N5 := hid (hf5.block _ _ _ N4.out (by decide))
      have HA5 := hid (HA4.out.go hA5)
      have HT5 := hid ht5
      have hz5 := hA5.size
      clear hk9 ht5 hA5 hf5 HT4 HA4 N4
      go_wp2_with fail
      refine (ROf_own ((k9 : Int) - 4) w5 (by omega) (by omega)).mono ?_
      rintro e w6 ⟨v6, rfl, i6, b6⟩
      obtain ⟨p6, n6, c6, rfl, i6⟩ := i6.shape
      have hsm6 : NSm ((k9 : Int) - 4) := NSm.of (by omega) (by omega)
      generalize (k9 : Int) - 4 = z6 at *
      generalize decide (z6 < 0) = d6 at *
      have b7 := below1 w6 (.cells #[.slice none 0 0, .bool d6, .slice p6 n6 c6] 46)
      have n7 := heap_alloc_new w6 (.cells #[.slice none 0 0, .bool d6, .slice p6 n6 c6] 46)
      have z7 := size_alloc w6 (.cells #[.slice none 0 0, .bool d6, .slice p6 n6 c6] 46)
      have hz6 := b6.size
      go_upto_region 6 with fail
      generalize hW7 : w6.alloc (.cells #[.slice none 0 0, .bool d6, .slice p6 n6 c6] 46) = W7 at *
      have hwr5 : wr.heap.size ≤ w5.heap.size := by omega
      have hwr6 : wr.heap.size ≤ w6.heap.size := by omega
      have HT7 := hid ((HT5.out.go b6).go b7)
      have HA7 := hid ((HA5.out.go (Apart.of_below b6)).go (Apart.of_below b7))
      have N7 := hid (((OffT.of_below (Ts := []) b6).trans (OffT.of_below b7)).block _ _ _ N5.out (by decide))
      have I7 := hid ((i6.mono hwr5).kept b7)
      obtain ⟨gx, hgx⟩ : ∃ gx, gx = w6.heap.size := ⟨_, rfl⟩
      rw [← hgx] at n7 z7 hwr6 ⊢
      have X7 := hid n7
      clear b6 b7 n7 i6 HT5 HA5 N5 hgx hW7 hW4 z4 hz5 hwr5 hz6
      go_wp2_with fail
      refine (Next_in 4 HT7.out (by decide)).mono ?_
      rintro e w8 ⟨j0, rfl, hj0, ht8, hA8⟩
      have hj3 : j0 ≤ 3 := by omega
      have hf8 := HT7.out.offT hA8
      have Hst : Hid (∃ pr cr rows, w8.heap[gx]? = some (.cells #[.slice pr rows.length cr, .bool d6, .slice p6 n6 c6] 46 (0, 0)) ∧ OwnRows wr.heap.size w8 (.slice pr rows.length cr) rows ∧ (∀ r ∈ rows, RSm r) ∧ rows.length + j0 ≤ 3) := hid ⟨none, 0, [], hf8.block _ _ _ X7.out (by decide), OwnLs.nil .., by simp, by simpa using hj3⟩
      have HI8 := hid (hf8.own I7.out (by decide))
      have HN8 := hid (hf8.block _ _ _ N7.out (by decide))
      have HA8 := hid (HA7.out.go hA8)
      have HT8 := hid ht8
      have hz8 := hA8.size
      clear hj0 ht8 hA8 hf8 HT7 HA7 N7 I7 X7
      go_wp2_with fail
      obtain ⟨wo, rfl⟩ : ∃ wo, wo = wr := ⟨_, rfl⟩
      go_loopw [9] (fun i wr => ∃ j : Nat, j ≤ 3 ∧ i = .int .i64 (j : Nat) ∧ Hid (∃ pr cr rows, wr.heap[gx]? = some (.cells #[.slice pr rows.length cr, .bool d6, .slice p6 n6 c6] 46 (0, 0)) ∧ OwnRows wo.heap.size wr (.slice pr rows.length cr) rows ∧ (∀ r ∈ rows, RSm r) ∧ rows.length + j ≤ 3) ∧ Hid (IntOwn wr wo.heap.size (.agg #[.bool d6, .slice p6 n6 c6]) z6) ∧ Hid (TpIn W0 wr t vB bs) ∧ Hid (Apart (fun i => i = t) wo wr) ∧ Hid (wr.heap[wo.heap.size]? = some (.cells #[.string nm, .int .i64 ar, .int .i64 so] 39 (0, 0)))) (fun i _ => (intOf i).toNat)
      case atStart => exact ⟨j0, hj3, rfl, Hst, HI8, HT8, HA8, HN8⟩
      case round =>
        clear Hst HI8 HT8 HA8 HN8 hj3 hz8
        obtain ⟨j, hj3, rfl, hX, HI6, HTm, HAw, HN⟩ := hrel
        obtain ⟨pr, cr, rows, hx0, hrows, hrs, hrl⟩ := hX.out
        have HX := hid hx0; have Hrows := hid hrows; have Hrs := hid hrs
        clear hx0 hrows hrs hX
        have hNc := rec3_cells HN.out
        obtain ⟨y0, y1, y2⟩ := hNc
        have hszw := HAw.out.size
        have hgxl : gx < wr.heap.size := (Array.getElem?_eq_some_iff.1 HX.out).1
        by_cases hgo : 0 < j ∧ 0 < ar
        · have t1 : decide ((0 : Int) < (j : Int)) = true := by simp; omega
          have t2 : decide ((0 : Int) < ar) = true := by simp; omega
          obtain ⟨hj0, har0⟩ := hgo
          go_wp2_with fail
          clear y0 y1 y2 t1 t2
          obtain ⟨wm, rfl⟩ : ∃ wm, wm = wr := ⟨_, rfl⟩
          go_loopw [10, 35] (fun l i wr => ∃ m : Nat, (m : Int) ≤ ar ∧ i = .int .i64 (m : Nat) ∧ Hid (∃ nums, nums.length = m ∧ OwnNums wm.heap.size wr l nums ∧ ∀ z ∈ nums, NSm z) ∧ Hid (TpIn W0 wr t vB bs) ∧ Hid (Apart (fun i => i = t) wm wr)) (fun _ i _ => (ar - intOf i).toNat)
          case atStart => exact ⟨0, by omega, rfl, hid ⟨[], rfl, OwnLs.nil .., by simp⟩, HTm, hid (Apart.refl _ _)⟩
          case round =>
            obtain ⟨m, hm, rfl, hL, HT14, hA3⟩ := hrel
            obtain ⟨nums, hnl, hnums, hns⟩ := hL.out
            obtain ⟨pl, cl, rfl⟩ := hnums.shape
            rw [hnl] at hnums ⊢
            have Hnums := hid hnums; have Hns := hid hns; have Hnl := hid hnl
            clear hnums hns hnl hL
            have hsz3 := hA3.out.size
            by_cases hlt2 : (m : Int) < ar
            · go_wp2_with fail
              refine (Next_in 7 HT14.out (by decide)).mono ?_
              rintro e w9 ⟨k7, rfl, hk7, ht9, hA9⟩
              have hk7' : (k7 : Int) ≤ 6 := by omega
              have Hnums9 := hid (OwnNums.off Hnums.out (HT14.out.offT hA9) (by decide) (by decide))
              have HA9 := hid (hA3.out.go hA9)
              have HT9 := hid ht9
              have hz9 := hA9.size
              clear hk7 ht9 hA9
              go_wp2_with fail
              refine (ROf_own ((k7 : Int) - 3) w9 (by omega) (by omega)).mono ?_
              rintro e w10 ⟨v10, rfl, i10, b10⟩
              obtain ⟨p10, n10, c10, rfl, i10⟩ := i10.shape
              have hsm10 : NSm ((k7 : Int) - 3) := NSm.of (by omega) (by omega)
              generalize (k7 : Int) - 3 = z10 at *
              have b11 := below1 w10 (.cells #[.bool (decide (z10 < 0)), .slice p10 n10 c10] 44)
              have n11 := heap_alloc_new w10 (.cells #[.bool (decide (z10 < 0)), .slice p10 n10 c10] 44)
              have hnews : ∀ j u, ([.bool (decide (z10 < 0)), .slice p10 n10 c10] : List Value)[j]? = some u → (w10.alloc (.cells #[.bool (decide (z10 < 0)), .slice p10 n10 c10] 44)).cell? ((⟨w10.heap.size, 0, none⟩ : Addr).add j) = some u := by
                intro j u hj
                rw [Go.WideShapes.add_plain, Nat.zero_add, cell_of_row _ _ _ _ _ _ n11]
                simpa using hj
              have b911 := bel_go b11 b10
              have hO11 := OwnNums.later Hnums9.out b911
              have I11 := hid ((i10.mono (show wm.heap.size ≤ w9.heap.size by omega)).kept b11)
              have HT11 := hid (HT9.out.go b911)
              have HA11 := hid (HA9.out.go (Apart.of_below b911))
              have hz11 := b911.size
              have hz10 := b10.size
              clear i10 b10 b11 n11 b911 HT9 HA9 Hnums9
              obtain ⟨xs, ho11, hgo⟩ := hO11.row
              rw [Hnl.out] at ho11 hgo
              have Hgo := hid hgo
              have Ho11 := hid ho11
              clear hgo hO11
              go_wp2_with (at_builtin; refine wpList_append_own _ rfl _ _ 32 rfl wm.heap.size 44 i0 _ 2 32 Tryz.underlying32 hi hz0 hz1 hz2 rfl (by decide) _ m _ rfl ho11 ⟨w10.heap.size, 0, none⟩ 1 1 [.bool (decide (z10 < 0)), .slice p10 n10 c10] rfl rfl hnews (by intro u hu; simp at hu; rcases hu with rfl | rfl <;> rfl) (by simp [maxLen]; omega) (by omega) (by omega) ?_; intro v12 w12 ho12 hg12 _)
              have hoff := OffT.of_grown Ho11.out hg12
              have hnew := Hgo.out w12 v12 [.bool (decide (z10 < 0)), .slice p10 n10 c10] z10 ho12 rfl (fun c x hx => hx.off hoff (by decide)) ⟨_, rfl, hoff.own I11.out (by decide)⟩
              have hrowge : ∀ i, (Value.slice pl m cl).ownBlock = some i → wm.heap.size ≤ i := fun i hi2 => (World.ownsRow.lt Ho11.out i hi2).1
              have HAF := hid (HA11.out.trans ((Apart.refl (fun i => (Value.slice pl m cl).ownBlock = some i) _).grown hg12 (fun k hk => hk)) (fun i hi2 => .inr (hrowge i hi2)))
              have HTF := hid (HT11.out.off hoff (by decide) (HT11.out.2.2.2.1.grown hg12 (by omega) (fun g hg => by have := hrowge g hg; omega)))
              have Hrel := hid (show ∃ nums', nums'.length = m + 1 ∧ OwnNums wm.heap.size w12 v12 nums' ∧ ∀ z ∈ nums', NSm z from ⟨nums ++ [z10], by simp [Hnl.out], hnew, fun z hz => by
                rcases List.mem_append.1 hz with h1 | h1
                · exact Hns.out z h1
                · rw [List.mem_singleton.1 h1]; exact hsm10⟩)
              clear hnew hoff hrowge
              go_roundw
              case rel => exact ⟨m + 1, by omega, by go_num, Hrel, HTF, HAF⟩
              case measure => simp [intOf] <;> omega
            · have hme : (m : Int) = ar := by omega
              have hm4 : m ≤ 4 := by omega
              have hfm := HTm.out.offT hA3.out
              have HX := hid (hfm.block _ _ _ HX.out (by decide))
              have Hrows := hid (OwnRows.off Hrows.out hfm (by decide) (by decide) (by decide))
              have HI6 := hid (hfm.own HI6.out (by decide))
              have HN := hid (hfm.block _ _ _ HN.out (by decide))
              have HAw := hid (HAw.out.go hA3.out)
              have hgxl : gx < wr.heap.size := (Array.getElem?_eq_some_iff.1 HX.out).1
              clear hfm hme
              go_upto_region 14 with fail
              refine wp_region_mk (w0 := wr) 9 3 [45, 46, 47, 48, 49, 50, 51, 52, 53] [u45, u46, u47, u48, u49, u50, u51, u52, u53]
                (fun i => match i with | 0 => eqM (.pointer (some ⟨gx, 0, none⟩)) | 1 => eqM (.slice pr rows.length cr) | 2 => eqM (.slice pl m cl) | 3 => eqM (.pointer (some ⟨t, 0, none⟩)) | 4 => nextM W0 t vB bs 9 wr | 5 => smallM | 6 => ownM wm.heap.size | 7 => rowM wm.heap.size (.slice pl m cl) | _ => putM wm.heap.size (.slice pl m cl)) 4 (fun _ _ => True) (fun _ _ _ _ _ => trivial) (by kernel_rfl) (by kernel_rfl) (by kernel_rfl) (by kernel_rfl) (by decide) rfl (by kernel_rfl) rfl (by decide) ?hst ?he1 ?_ ?_
              case he1 => simp only [putAll, Act.put, List.setIfInBounds_toArray, List.set_cons_zero, List.set_cons_succ]
              case hst =>
                intro j hj hr hne v wx wy h hf
                rcases j with _ | _ | _ | _ | _ | _ | _ | _ | _ | j
                · exact h
                · exact h
                · exact h
                · exact h
                · exact absurd rfl hne
                · exact absurd (show false = true from hr.symm.trans (by kernel_rfl)) (by decide)
                · exact absurd (show false = true from hr.symm.trans (by kernel_rfl)) (by decide)
                · exact absurd (show false = true from hr.symm.trans (by kernel_rfl)) (by decide)
                · exact absurd (show false = true from hr.symm.trans (by kernel_rfl)) (by decide)
                · omega
              · intro i o hi' ho' vs wx hvl hb hB hdep K hK
                have hvs := vlen9 hvl
                obtain ⟨s45, s46, s47, s48, s49, s50, s51, s52, s53, rfl⟩ := hvs
                clear hvl
                rcases i with _ | _ | _ | _ | _ | _ | _ | _ | _ | i
                all_goals (simp only [List.getElem?_toArray, List.getElem?_cons_zero, List.getElem?_cons_succ, Option.some.injEq] at ho')
                all_goals try (subst ho')
                all_goals try simp only [putAll, Act.put, List.setIfInBounds_toArray, List.set_cons_zero, List.set_cons_succ]
                · go_simp
                  have hK' := hK.out
                  simp only [putAll, Act.put, List.setIfInBounds_toArray, List.set_cons_zero, List.set_cons_succ] at hK'
                  exact hK' _ _ rfl (fun _ => Below.refl _ _) (fun h => absurd h (by decide))
                · have e0 : s45 = _ := hdep ⟨0, .data⟩ (by simp) rfl
                  have e0 := e0.symm
                  subst e0
                  have hx := rec3_cells (hb.cells HX.out (by decide) (by decide) (by decide))
                  obtain ⟨q0, q1, q2⟩ := hx
                  go_simp
                  have hK' := hK.out
                  simp only [putAll, Act.put, List.setIfInBounds_toArray, List.set_cons_zero, List.set_cons_succ] at hK'
                  exact hK' _ _ rfl (fun _ => Below.refl _ _) (fun h => absurd h (by decide))
                · go_simp
                  have hK' := hK.out
                  simp only [putAll, Act.put, List.setIfInBounds_toArray, List.set_cons_zero, List.set_cons_succ] at hK'
                  exact hK' _ _ rfl (fun _ => Below.refl _ _) (fun h => absurd h (by decide))
                · go_simp
                  have hK' := hK.out
                  simp only [putAll, Act.put, List.setIfInBounds_toArray, List.set_cons_zero, List.set_cons_succ] at hK'
                  exact hK' _ _ rfl (fun _ => Below.refl _ _) (fun h => absurd h (by decide))
                · have e3 : s48 = _ := hdep ⟨3, .data⟩ (by simp) rfl
                  have e3 := e3.symm
                  subst e3
                  have hb0 : Below wr.heap.size wr wx := hB (.inl rfl)
                  go_simp
                  refine (Next_in 9 (HT14.out.go hb0) (by decide)).mono ?_
                  rintro e wy ⟨kk, rfl, hkk, htt, hAA⟩
                  go_wp2_with fail
                  have hK' := hK.out
                  simp only [putAll, Act.put, List.setIfInBounds_toArray, List.set_cons_zero, List.set_cons_succ] at hK'
                  exact hK' _ _ ⟨kk, rfl, by omega, htt, (Apart.of_below hb0).go hAA⟩ (fun h => absurd rfl h) (fun _ => ⟨(HT14.out.go hb0).fr hAA, trivial⟩)
                · have e4 : (nextM W0 t vB bs 9 wr).P s49 wx := hdep ⟨4, .data⟩ (by simp) rfl
                  obtain ⟨kk, e4', hkk, htt, hAA⟩ := e4
                  have e4' := e4'.symm
                  subst e4'
                  go_simp
                  have hK' := hK.out
                  simp only [putAll, Act.put, List.setIfInBounds_toArray, List.set_cons_zero, List.set_cons_succ] at hK'
                  exact hK' _ _ ⟨(kk : Int) - 4, (show Value.int .i64 (IntKind.i64.wrap ((kk : Int) - 4)) = .int .i64 ((kk : Int) - 4) by rw [IntWalk.i64_in _ (by omega)]), by omega, by omega⟩ (fun _ => Below.refl _ _) (fun h => absurd h (by decide))
                · have e5 : (smallM).P s50 wx := hdep ⟨5, .data⟩ (by simp) rfl
                  obtain ⟨z, e5', hz5, hz6⟩ := e5
                  have e5' := e5'.symm
                  subst e5'
                  go_simp
                  refine (ROf_own z wx (by omega) (by omega)).mono ?_
                  rintro e wy ⟨vy, rfl, iy, hby⟩
                  obtain ⟨p5, n5, c5, rfl, iy⟩ := iy.shape
                  go_wp2_with fail
                  have hK' := hK.out
                  simp only [putAll, Act.put, List.setIfInBounds_toArray, List.set_cons_zero, List.set_cons_succ] at hK'
                  exact hK' _ _ ⟨_, p5, n5, c5, z, rfl, NSm.of (by omega) (by omega), iy.mono (by have := hb.size; omega)⟩ (fun _ => hby) (fun h => absurd h (by decide))
                · have e2 : s47 = _ := hdep ⟨2, .data⟩ (by simp) rfl
                  have e2 := e2.symm
                  subst e2
                  have e6 : (ownM wm.heap.size).P s51 wx := hdep ⟨6, .data⟩ (by simp) rfl
                  obtain ⟨d5, p5, n5, c5, z, e6', hz, hio⟩ := e6
                  have e6' := e6'.symm
                  subst e6'
                  go_simp
                  have hK' := hK.out
                  simp only [putAll, Act.put, List.setIfInBounds_toArray, List.set_cons_zero, List.set_cons_succ] at hK'
                  exact hK' _ _ ⟨d5, p5, n5, c5, z, rfl, hz, hio⟩ (fun _ => Below.refl _ _) (fun h => absurd h (by decide))
                · have e7 : (rowM wm.heap.size (.slice pl m cl)).P s52 wx := hdep ⟨7, .data⟩ (by simp) rfl
                  obtain ⟨d5, p5, n5, c5, z, e7', hz, hio⟩ := e7
                  have e7' := e7'.symm
                  subst e7'
                  go_simp
                  have hK' := hK.out
                  simp only [putAll, Act.put, List.setIfInBounds_toArray, List.set_cons_zero, List.set_cons_succ] at hK'
                  exact hK' _ _ ⟨wx.heap.size, d5, p5, n5, c5, z, rfl, heap_alloc_new wx _, by have := hb.size; omega, hz, hio.kept (below1 _ _)⟩ (fun _ => below1 _ _) (fun h => absurd h (by decide))
                · omega
              · intro vs wx hvl hb hf hJw
                have hvs := vlen9 hvl
                obtain ⟨s45, s46, s47, s48, s49, s50, s51, s52, s53, rfl⟩ := hvs
                have e1 : s46 = .slice pr rows.length cr := hf 1 (by decide)
                subst e1
                have e8 : (putM wm.heap.size (.slice pl m cl)).P s53 wx := hf 8 (by decide)
                obtain ⟨gg, d5, p5, n5, c5, z, e8', hgg, hggB, hz, hio⟩ := e8
                subst e8'
                have e4 : (nextM W0 t vB bs 9 wr).P s49 wx := hf 4 (by decide)
                obtain ⟨kk, -, -, htx, hAx⟩ := e4
                have hfx := HT14.out.offT hAx
                have hX14 := hfx.block _ _ _ HX.out (by decide)
                have hrows14 := OwnRows.off Hrows.out hfx (by decide) (by decide) (by decide)
                have hnums14 := OwnNums.off Hnums.out hfx (by decide) (by decide)
                have hI14 := hfx.own HI6.out (by decide)
                have hN14 := hfx.block _ _ _ HN.out (by decide)
                have hx := rec3_cells hX14
                obtain ⟨q0, q1, q2⟩ := hx
                obtain ⟨xs, hrow, hgo⟩ := hrows14.row
                have HgoR := hid hgo
                have Hrow14 := hid hrow
                clear hf hvl hgo
                have hzx := hAx.size
                refine wpAny_one (i := 9) (by kernel_rfl) rfl ?_
                intro K hK
                try simp only [putAll, Act.put, List.setIfInBounds_toArray, List.set_cons_zero, List.set_cons_succ]
                rw [if_pos (by rfl)]
                refine step_append (.tmp 46) (.tmp 53) 40 ?ho wo.heap.size 63 i1 _ 3 56 Tryz.underlying40 hiR hr0 hr1 hr2 rfl (by decide) (.slice pr rows.length cr) rows.length xs ?hs hrow ⟨gg, 0, none⟩ 1 1 [.slice pl m cl, .bool d5, .slice p5 n5 c5] ?hx rfl ?c1 ?c2 ?c3 ?c4 ?c5 ?_
                case ho => rfl
                case hs => rfl
                case hx => rfl
                case c1 =>
                  intro j u hj
                  rw [Go.WideShapes.add_plain, Nat.zero_add, cell_of_row _ _ _ _ _ _ hgg]
                  simpa using hj
                case c2 => intro u hu; simp at hu; rcases hu with rfl | rfl | rfl <;> rfl
                case c3 => simp [maxLen]; omega
                case c4 => omega
                case c5 => omega
                intro v' w13 hown13 hg13 _
                have hK' := hK.out
                apply hK'
                clear hK hK' q0 q1 q2
                obtain ⟨pv, cv, rfl⟩ := ownsRow_shape hown13
                have hf13 := OffT.of_grown Hrow14.out hg13
                have hX13 := hf13.block _ _ _ hX14 (by decide)
                refine wpAny_one (i := 10) (by kernel_rfl) rfl ?_
                intro K hK
                try simp only [Act.put, List.setIfInBounds_toArray]
                have hK' := hK.out
                go_simp
                apply hK'
                clear hK hK'
                have hx := rec3_cells hX13
                obtain ⟨q0, q1, q2⟩ := hx
                have fz := frozen_all hX13 0
                refine wpAny_one (i := 11) (by kernel_rfl) rfl ?_
                intro K hK
                try simp only [Act.put, List.setIfInBounds_toArray]
                have hK' := hK.out
                go_simp
                apply hK'
                clear hK hK' q0 q1 q2 fz
                refine wpAny_done (by kernel_rfl) ?_ _
                try simp only [putAll, Act.put, List.setIfInBounds_toArray, List.set_cons_zero, List.set_cons_succ]
                have hfs := OffT.set hX13 0 (.slice pv (rows.length + 1) cv)
                have hio13 := hf13.own hio (by decide)
                have hnums13 := OwnNums.off hnums14 hf13 (by decide) (by decide)
                have hnew := HgoR.out w13 _ [.slice pl m cl, .bool d5, .slice p5 n5 c5] (nums, z) hown13 rfl (fun c x hx => hx.off hf13 (by decide) (by decide)) ⟨_, _, _, rfl, OwnNums.weaken hnums13 (by omega), by
                  obtain ⟨s', es, hos⟩ := hio13
                  injection es with es
                  simp only [Array.mk.injEq, List.cons.injEq, and_true] at es
                  obtain ⟨es1, es2⟩ := es
                  injection es1 with es1
                  subst es1 es2
                  exact ⟨_, rfl, (show IntOwn w13 wm.heap.size _ z from ⟨_, rfl, hos⟩).mono (by omega)⟩⟩
                have hrowsF := OwnRows.off hnew hfs (by decide) (by decide) (by decide)
                have hXF : (w13.setCell ⟨gx, 0, none⟩ (.slice pv (rows.length + 1) cv)).heap[gx]? = some (.cells #[.slice pv (rows.length + 1) cv, .bool d6, .slice p6 n6 c6] 46 (0, 0)) := by simpa using heap_setCell_same w13 gx 0 _ _ (.slice pv (rows.length + 1) cv) hX13
                have hIF := hfs.own (hf13.own hI14 (by decide)) (by decide)
                have hNF := hfs.block _ _ _ (hf13.block _ _ _ hN14 (by decide)) (by decide)
                have hrowge : ∀ i, (Value.slice pr rows.length cr).ownBlock = some i → wo.heap.size ≤ i := fun i hi2 => (World.ownsRow.lt Hrow14.out i hi2).1
                have hAF : Apart (fun i => i = t) wo (w13.setCell ⟨gx, 0, none⟩ (.slice pv (rows.length + 1) cv)) :=
                  ((HAw.out.go hAx).trans ((Apart.refl (fun i => (Value.slice pr rows.length cr).ownBlock = some i) wx).grown hg13 (fun k hk => hk)) (fun i hi2 => .inr (hrowge i hi2))).trans (Apart.setCell (p := ⟨gx, 0, none⟩) (Apart.refl (fun i => i = gx) w13) rfl _) (fun i hi2 => .inr (by omega))
                have hTF := htx.off (hf13.mono (Ts' := [63, 46]) (by simp) |>.trans (hfs.mono (by simp))) (by decide) (((htx.2.2.2.1.grown hg13 (by omega) (fun g hg => by have := hrowge g hg; omega))).setCell (p := ⟨gx, 0, none⟩) (by show W0.heap.size ≤ gx; omega) _)
                have Hrel := hid (show ∃ pr cr rws, (w13.setCell ⟨gx, 0, none⟩ (.slice pv (rows.length + 1) cv)).heap[gx]? = some (.cells #[.slice pr rws.length cr, .bool d6, .slice p6 n6 c6] 46 (0, 0)) ∧ OwnRows wo.heap.size (w13.setCell ⟨gx, 0, none⟩ (.slice pv (rows.length + 1) cv)) (.slice pr rws.length cr) rws ∧ (∀ r ∈ rws, RSm r) ∧ rws.length + (j - 1) ≤ 3 from
                  ⟨pv, cv, rows ++ [(nums, z)], by simpa using hXF, by simpa using hrowsF, fun r hr => by
                    rcases List.mem_append.1 hr with h1 | h1
                    · exact Hrs.out r h1
                    · rw [List.mem_singleton.1 h1]; exact ⟨Hns.out, hz⟩, by simp; omega⟩)
                have HIF := hid hIF; have HNF := hid hNF; have HAF := hid hAF; have HTF := hid hTF
                clear hnew hrowsF hXF hIF hNF hAF hTF hio13 hnums13 hfs hX13 hf13 hown13 hg13 hX14 hrows14 hnums14 hI14 hN14 hfx hAx htx hio hgg hrow hrowge
                go_wp2_with fail
                go_roundw
                case rel => exact ⟨j - 1, by omega, by go_num, Hrel, HIF, HTF, HAF, HNF⟩
                case measure => simp [intOf] <;> omega
        · have hX := rec3_cells HX.out
          obtain ⟨q0, q1, q2⟩ := hX
          have hend : Hid (∃ p c ts, wr.heap[w.heap.size + 1]? = some (.cells #[.slice p ts.length c] 28 (0, 0)) ∧ OwnTabs w.heap.size wr (.slice p ts.length c) ts ∧ ts.length = k ∧ (∀ x ∈ ts, TSm x) ∧ ∀ g, (Value.slice p ts.length c).ownBlock = some g → g < wo.heap.size) := hid (by
            obtain ⟨p, c, ts, h1, h2, h3, h4⟩ := hM.out
            have hf := hT.out.offT HAw.out
            exact ⟨p, c, ts, hf.block _ _ _ h1 (by decide), OwnTabs.off h2 hf (by decide) (by decide) (by decide) (by decide), h3, h4, fun g hg => (OwnLs.lt h2 g hg).2⟩)
          have HRe := hid ((hT.out.offT HAw.out).block _ _ _ hR.out (by decide))
          obtain ⟨p, c, ts, hMe, htabs, hln, hsm, hlow⟩ := hend.out
          have hlk : ts.length ≤ 1000 := by omega
          have hmesz := (Array.getElem?_eq_some_iff.1 hMe).1
          have Hlow := hid hlow
          clear hlow
          have HMe := hid hMe; have Htabs := hid htabs; have Hln := hid hln; have Hsm := hid hsm
          clear hMe htabs hln hsm hend
          have htest : (j = 0) ∨ (0 < j ∧ decide ((0 : Int) < ar) = false) := by
            by_cases h1 : 0 < j
            · exact .inr ⟨h1, by simp; omega⟩
            · exact .inl (by omega)
          clear hgo
          obtain ⟨we, rfl⟩ : ∃ we, we = wr := ⟨_, rfl⟩
          cases hso : (so == 1)
          · rcases htest with rfl | ⟨t1, t2⟩
            ·
              have HXe := HX; have HTe := HTm; have HAe := HAw; have HIe := HI6; have Hrowse := Hrows; have Hrse := Hrs
              obtain ⟨de, hde⟩ : ∃ de, de = d6 := ⟨_, rfl⟩
              obtain ⟨pe, hpe⟩ : ∃ pe, pe = p6 := ⟨_, rfl⟩
              obtain ⟨ne, hne⟩ : ∃ ne, ne = n6 := ⟨_, rfl⟩
              obtain ⟨ce, hce⟩ : ∃ ce, ce = c6 := ⟨_, rfl⟩
              obtain ⟨zz, hzz'⟩ : ∃ zz, zz = z6 := ⟨_, rfl⟩
              subst hde hpe hne hce
              have hzz : NSm zz := by rw [hzz']; exact hsm6
              subst hzz'
              have hx := rec3_cells HXe.out
              obtain ⟨q0, q1, q2⟩ := hx
              have hm := one_cell HMe.out
              obtain ⟨m0, m1⟩ := hm
              have b17 := below1 we (.cells #[.slice pr rows.length cr, .bool de, .slice pe ne ce] 46)
              have n17 := heap_alloc_new we (.cells #[.slice pr rows.length cr, .bool de, .slice pe ne ce] 46)
              have z17 := size_alloc we (.cells #[.slice pr rows.length cr, .bool de, .slice pe ne ce] 46)
              generalize hW17 : we.alloc (.cells #[.slice pr rows.length cr, .bool de, .slice pe ne ce] 46) = W17 at *
              have hnews : ∀ j u, ([.slice pr rows.length cr, .bool de, .slice pe ne ce] : List Value)[j]? = some u → W17.cell? ((⟨we.heap.size, 0, none⟩ : Addr).add j) = some u := by
                intro j u hj
                rw [Go.WideShapes.add_plain, Nat.zero_add, cell_of_row _ _ _ _ _ _ n17]
                simpa using hj
              have hf17 : OffT [] we W17 := OffT.of_below b17
              have hM17 := hf17.block _ _ _ HMe.out (by decide)
              have m2 := one_cell hM17
              obtain ⟨m2, m3⟩ := m2
              have htabs := OwnTabs.off Htabs.out hf17 (by decide) (by decide) (by decide) (by decide)
              obtain ⟨xs, hrow, hgo⟩ := htabs.row
              have Hrow := hid hrow; have Hgo := hid hgo
              have Hnew17 := hid (show TabIoQ w.heap.size W17 [.slice pr rows.length cr, .bool de, .slice pe ne ce] ⟨rows, zz⟩ from ⟨_, _, _, rfl, OwnRows.weaken (OwnRows.off Hrowse.out hf17 (by decide) (by decide) (by decide)) (by omega), by
                have hie := hf17.own HIe.out (by decide)
                obtain ⟨s', es, hos⟩ := hie
                injection es with es
                simp only [Array.mk.injEq, List.cons.injEq, and_true] at es
                obtain ⟨es1, es2⟩ := es
                injection es1 with es1
                subst es1 es2
                exact ⟨_, rfl, (show IntOwn W17 wo.heap.size _ zz from ⟨_, rfl, hos⟩).mono (by omega)⟩⟩)
              have HT17 := hid (HTe.out.go b17)
              have HA17 := hid (HAe.out.go (Apart.of_below b17))
              have hR17 := hid (hf17.block _ _ _ HRe.out (by decide))
              have hsz17 : w.heap.size + 1 < W17.heap.size := by omega
              have HM17 := hid hM17
              clear hgo hM17 htabs n17 hf17
              go_wp2_with (at_builtin; refine wpList_append_own _ rfl _ _ 26 rfl w.heap.size 46 i2 _ 3 56 Tryz.underlying26 hiT ht0 ht1 ht2 rfl (by decide) _ ts.length _ rfl hrow ⟨we.heap.size, 0, none⟩ 1 1 [.slice pr rows.length cr, .bool de, .slice pe ne ce] rfl rfl hnews (by intro u hu; simp at hu; rcases hu with rfl | rfl | rfl <;> rfl) (by simp [maxLen]; omega) (by omega) (by omega) ?_; intro v18 w18 ho18 hg18 _; obtain ⟨p18, c18, rfl⟩ := ownsRow_shape ho18; have hf18 := OffT.of_grown Hrow.out hg18; have hM18 := hf18.block _ _ _ HM17.out (by decide); have m4 := one_cell hM18; obtain ⟨m4, m5⟩ := m4)
              have hfs := OffT.set hM18 0 (.slice p18 (ts.length + 1) c18)
              have hnew := Hgo.out w18 _ [.slice pr rows.length cr, .bool de, .slice pe ne ce] ⟨rows, zz⟩ ho18 rfl (fun c x hx => hx.off hf18 (by decide) (by decide) (by decide)) (Hnew17.out.off hf18 (by decide) (by decide) (by decide))
              have hnewF := OwnTabs.off hnew hfs (by decide) (by decide) (by decide) (by decide)
              have hMF : (w18.setCell ⟨w.heap.size + 1, 0, none⟩ (.slice p18 (ts.length + 1) c18)).heap[w.heap.size + 1]? = some (.cells #[.slice p18 (ts.length + 1) c18] 28 (0, 0)) := by simpa using heap_setCell_same w18 (w.heap.size + 1) 0 _ _ (.slice p18 (ts.length + 1) c18) hM18
              have hRF : (w18.setCell ⟨w.heap.size + 1, 0, none⟩ (.slice p18 (ts.length + 1) c18)).heap[w.heap.size]? = some (.cells #[.slice none 0 0] 28 (0, 0)) := (Below.heap_setCell _ _ _ _ (show w.heap.size ≠ w.heap.size + 1 by omega)).trans (hf18.block _ _ _ hR17.out (by decide))
              have hrowge : ∀ i, (Value.slice p ts.length c).ownBlock = some i → w.heap.size ≤ i := fun i hi2 => (World.ownsRow.lt Hrow.out i hi2).1
              have hAF : Apart (fun i => i = t) w (w18.setCell ⟨w.heap.size + 1, 0, none⟩ (.slice p18 (ts.length + 1) c18)) :=
                ((hA.out.go HA17.out).trans ((Apart.refl (fun i => (Value.slice p ts.length c).ownBlock = some i) W17).grown hg18 (fun k hk => hk)) (fun i hi2 => .inr (hrowge i hi2))).trans (Apart.setCell (p := ⟨w.heap.size + 1, 0, none⟩) (Apart.refl (fun i => i = w.heap.size + 1) w18) rfl _) (fun i hi2 => .inr (by omega))
              have hTF := HT17.out.off (hf18.mono (Ts' := [46, 28]) (by simp) |>.trans (hfs.mono (by simp))) (by decide) (((HT17.out.2.2.2.1.grown hg18 (by omega) (fun g hg => by have := hrowge g hg; omega))).setCell (p := ⟨w.heap.size + 1, 0, none⟩) (by show W0.heap.size ≤ w.heap.size + 1; omega) _)
              have Hrel := hid (show ∃ p c ts', (w18.setCell ⟨w.heap.size + 1, 0, none⟩ (.slice p18 (ts.length + 1) c18)).heap[w.heap.size + 1]? = some (.cells #[.slice p ts'.length c] 28 (0, 0)) ∧ OwnTabs w.heap.size (w18.setCell ⟨w.heap.size + 1, 0, none⟩ (.slice p18 (ts.length + 1) c18)) (.slice p ts'.length c) ts' ∧ ts'.length = k + 1 ∧ ∀ x ∈ ts', TSm x from
                ⟨p18, c18, ts ++ [⟨rows, zz⟩], by simpa using hMF, by simpa using hnewF, by simp [Hln.out], fun x hx => by
                  rcases List.mem_append.1 hx with h1 | h1
                  · exact Hsm.out x h1
                  · rw [List.mem_singleton.1 h1]; exact ⟨Hrse.out, hzz⟩⟩)
              have HRF := hid hRF; have HAF := hid hAF; have HTF := hid hTF
              clear hnew hnewF hMF hRF hAF hTF hfs hf18 hg18 ho18 hM18 hrowge
              go_roundw
              case rel => exact ⟨k + 1, by omega, by go_num, Hrel, HTF, HAF, HRF⟩
              case measure => simp [intOf] <;> omega
            ·
              have HXe := HX; have HTe := HTm; have HAe := HAw; have HIe := HI6; have Hrowse := Hrows; have Hrse := Hrs
              obtain ⟨de, hde⟩ : ∃ de, de = d6 := ⟨_, rfl⟩
              obtain ⟨pe, hpe⟩ : ∃ pe, pe = p6 := ⟨_, rfl⟩
              obtain ⟨ne, hne⟩ : ∃ ne, ne = n6 := ⟨_, rfl⟩
              obtain ⟨ce, hce⟩ : ∃ ce, ce = c6 := ⟨_, rfl⟩
              obtain ⟨zz, hzz'⟩ : ∃ zz, zz = z6 := ⟨_, rfl⟩
              subst hde hpe hne hce
              have hzz : NSm zz := by rw [hzz']; exact hsm6
              subst hzz'
              have hx := rec3_cells HXe.out
              obtain ⟨q0, q1, q2⟩ := hx
              have hm := one_cell HMe.out
              obtain ⟨m0, m1⟩ := hm
              have b17 := below1 we (.cells #[.slice pr rows.length cr, .bool de, .slice pe ne ce] 46)
              have n17 := heap_alloc_new we (.cells #[.slice pr rows.length cr, .bool de, .slice pe ne ce] 46)
              have z17 := size_alloc we (.cells #[.slice pr rows.length cr, .bool de, .slice pe ne ce] 46)
              generalize hW17 : we.alloc (.cells #[.slice pr rows.length cr, .bool de, .slice pe ne ce] 46) = W17 at *
              have hnews : ∀ j u, ([.slice pr rows.length cr, .bool de, .slice pe ne ce] : List Value)[j]? = some u → W17.cell? ((⟨we.heap.size, 0, none⟩ : Addr).add j) = some u := by
                intro j u hj
                rw [Go.WideShapes.add_plain, Nat.zero_add, cell_of_row _ _ _ _ _ _ n17]
                simpa using hj
              have hf17 : OffT [] we W17 := OffT.of_below b17
              have hM17 := hf17.block _ _ _ HMe.out (by decide)
              have m2 := one_cell hM17
              obtain ⟨m2, m3⟩ := m2
              have htabs := OwnTabs.off Htabs.out hf17 (by decide) (by decide) (by decide) (by decide)
              obtain ⟨xs, hrow, hgo⟩ := htabs.row
              have Hrow := hid hrow; have Hgo := hid hgo
              have Hnew17 := hid (show TabIoQ w.heap.size W17 [.slice pr rows.length cr, .bool de, .slice pe ne ce] ⟨rows, zz⟩ from ⟨_, _, _, rfl, OwnRows.weaken (OwnRows.off Hrowse.out hf17 (by decide) (by decide) (by decide)) (by omega), by
                have hie := hf17.own HIe.out (by decide)
                obtain ⟨s', es, hos⟩ := hie
                injection es with es
                simp only [Array.mk.injEq, List.cons.injEq, and_true] at es
                obtain ⟨es1, es2⟩ := es
                injection es1 with es1
                subst es1 es2
                exact ⟨_, rfl, (show IntOwn W17 wo.heap.size _ zz from ⟨_, rfl, hos⟩).mono (by omega)⟩⟩)
              have HT17 := hid (HTe.out.go b17)
              have HA17 := hid (HAe.out.go (Apart.of_below b17))
              have hR17 := hid (hf17.block _ _ _ HRe.out (by decide))
              have hsz17 : w.heap.size + 1 < W17.heap.size := by omega
              have HM17 := hid hM17
              clear hgo hM17 htabs n17 hf17
              go_wp2_with (at_builtin; refine wpList_append_own _ rfl _ _ 26 rfl w.heap.size 46 i2 _ 3 56 Tryz.underlying26 hiT ht0 ht1 ht2 rfl (by decide) _ ts.length _ rfl hrow ⟨we.heap.size, 0, none⟩ 1 1 [.slice pr rows.length cr, .bool de, .slice pe ne ce] rfl rfl hnews (by intro u hu; simp at hu; rcases hu with rfl | rfl | rfl <;> rfl) (by simp [maxLen]; omega) (by omega) (by omega) ?_; intro v18 w18 ho18 hg18 _; obtain ⟨p18, c18, rfl⟩ := ownsRow_shape ho18; have hf18 := OffT.of_grown Hrow.out hg18; have hM18 := hf18.block _ _ _ HM17.out (by decide); have m4 := one_cell hM18; obtain ⟨m4, m5⟩ := m4)
              have hfs := OffT.set hM18 0 (.slice p18 (ts.length + 1) c18)
              have hnew := Hgo.out w18 _ [.slice pr rows.length cr, .bool de, .slice pe ne ce] ⟨rows, zz⟩ ho18 rfl (fun c x hx => hx.off hf18 (by decide) (by decide) (by decide)) (Hnew17.out.off hf18 (by decide) (by decide) (by decide))
              have hnewF := OwnTabs.off hnew hfs (by decide) (by decide) (by decide) (by decide)
              have hMF : (w18.setCell ⟨w.heap.size + 1, 0, none⟩ (.slice p18 (ts.length + 1) c18)).heap[w.heap.size + 1]? = some (.cells #[.slice p18 (ts.length + 1) c18] 28 (0, 0)) := by simpa using heap_setCell_same w18 (w.heap.size + 1) 0 _ _ (.slice p18 (ts.length + 1) c18) hM18
              have hRF : (w18.setCell ⟨w.heap.size + 1, 0, none⟩ (.slice p18 (ts.length + 1) c18)).heap[w.heap.size]? = some (.cells #[.slice none 0 0] 28 (0, 0)) := (Below.heap_setCell _ _ _ _ (show w.heap.size ≠ w.heap.size + 1 by omega)).trans (hf18.block _ _ _ hR17.out (by decide))
              have hrowge : ∀ i, (Value.slice p ts.length c).ownBlock = some i → w.heap.size ≤ i := fun i hi2 => (World.ownsRow.lt Hrow.out i hi2).1
              have hAF : Apart (fun i => i = t) w (w18.setCell ⟨w.heap.size + 1, 0, none⟩ (.slice p18 (ts.length + 1) c18)) :=
                ((hA.out.go HA17.out).trans ((Apart.refl (fun i => (Value.slice p ts.length c).ownBlock = some i) W17).grown hg18 (fun k hk => hk)) (fun i hi2 => .inr (hrowge i hi2))).trans (Apart.setCell (p := ⟨w.heap.size + 1, 0, none⟩) (Apart.refl (fun i => i = w.heap.size + 1) w18) rfl _) (fun i hi2 => .inr (by omega))
              have hTF := HT17.out.off (hf18.mono (Ts' := [46, 28]) (by simp) |>.trans (hfs.mono (by simp))) (by decide) (((HT17.out.2.2.2.1.grown hg18 (by omega) (fun g hg => by have := hrowge g hg; omega))).setCell (p := ⟨w.heap.size + 1, 0, none⟩) (by show W0.heap.size ≤ w.heap.size + 1; omega) _)
              have Hrel := hid (show ∃ p c ts', (w18.setCell ⟨w.heap.size + 1, 0, none⟩ (.slice p18 (ts.length + 1) c18)).heap[w.heap.size + 1]? = some (.cells #[.slice p ts'.length c] 28 (0, 0)) ∧ OwnTabs w.heap.size (w18.setCell ⟨w.heap.size + 1, 0, none⟩ (.slice p18 (ts.length + 1) c18)) (.slice p ts'.length c) ts' ∧ ts'.length = k + 1 ∧ ∀ x ∈ ts', TSm x from
                ⟨p18, c18, ts ++ [⟨rows, zz⟩], by simpa using hMF, by simpa using hnewF, by simp [Hln.out], fun x hx => by
                  rcases List.mem_append.1 hx with h1 | h1
                  · exact Hsm.out x h1
                  · rw [List.mem_singleton.1 h1]; exact ⟨Hrse.out, hzz⟩⟩)
              have HRF := hid hRF; have HAF := hid hAF; have HTF := hid hTF
              clear hnew hnewF hMF hRF hAF hTF hfs hf18 hg18 ho18 hM18 hrowge
              go_roundw
              case rel => exact ⟨k + 1, by omega, by go_num, Hrel, HTF, HAF, HRF⟩
              case measure => simp [intOf] <;> omega
          · rcases htest with rfl | ⟨t1, t2⟩
            ·
              go_wp2_with fail
              clear q0 q1 q2 y0 y1 y2
              refine (Next_in 2 HTm.out (by decide)).mono ?_
              rintro e w20 ⟨k2, rfl, hk2, ht20, hA20⟩
              have hk2' : (k2 : Int) ≤ 1 := by omega
              have hf20 := HTm.out.offT hA20
              have HX20 := hid (hf20.block _ _ _ HX.out (by decide))
              have Hrows20 := hid (OwnRows.off Hrows.out hf20 (by decide) (by decide) (by decide))
              have HM20 := hid (hf20.block _ _ _ HMe.out (by decide))
              have Htabs20 := hid (OwnTabs.off Htabs.out hf20 (by decide) (by decide) (by decide) (by decide))
              have HR20 := hid (hf20.block _ _ _ HRe.out (by decide))
              have HA20 := hid (HAw.out.go hA20)
              have HT20 := hid ht20
              have hz20 := hA20.size
              clear hk2 ht20 hA20 hf20 HX Hrows HMe Htabs HRe HI6 HN
              go_wp2_with fail
              refine (ROf_own (k2 : Int) w20 (by omega) (by omega)).mono ?_
              rintro e w21 ⟨v21, rfl, i21, b21⟩
              obtain ⟨pe, ne, ce, rfl, i21⟩ := i21.shape
              have hzz : NSm (k2 : Int) := NSm.of (by omega) (by omega)
              generalize hzk : (k2 : Int) = zz at *
              obtain ⟨de, hde⟩ : ∃ de, de = decide (zz < 0) := ⟨_, rfl⟩
              rw [← hde] at i21 ⊢
              clear hde
              have hf21 : OffT [] w20 w21 := OffT.of_below b21
              have hx21 := hf21.block _ _ _ HX20.out (by decide)
              have hz21 := b21.size
              have hcc := rec3_cells hx21
              obtain ⟨q0, q1, q2⟩ := hcc
              have fz1 := frozen_all hx21 1
              have fz2 := frozen_all hx21 2
              have hs1 := OffT.set hx21 1 (.bool de)
              have hx22 : (w21.setCell ⟨gx, 1, none⟩ (.bool de)).heap[gx]? = some (.cells #[.slice pr rows.length cr, .bool de, .slice p6 n6 c6] 46 (0, 0)) := by simpa using heap_setCell_same w21 gx 1 _ _ (.bool de) hx21
              have hs2 := OffT.set hx22 2 (.slice pe ne ce)
              have hx23 : ((w21.setCell ⟨gx, 1, none⟩ (.bool de)).setCell ⟨gx, 2, none⟩ (.slice pe ne ce)).heap[gx]? = some (.cells #[.slice pr rows.length cr, .bool de, .slice pe ne ce] 46 (0, 0)) := by simpa using heap_setCell_same (w21.setCell ⟨gx, 1, none⟩ (.bool de)) gx 2 _ _ (.slice pe ne ce) hx22
              have hs12 := hs1.trans hs2
              have hAs : Apart (fun i => i = gx) w21 ((w21.setCell ⟨gx, 1, none⟩ (.bool de)).setCell ⟨gx, 2, none⟩ (.slice pe ne ce)) := Apart.setCell (p := ⟨gx, 2, none⟩) (Apart.setCell (p := ⟨gx, 1, none⟩) (Apart.refl (fun i => i = gx) w21) rfl _) rfl _
              have hBs := (((HT20.out.go b21).2.2.2.1).setCell (p := ⟨gx, 1, none⟩) (show W0.heap.size ≤ gx by omega) (.bool de)).setCell (p := ⟨gx, 2, none⟩) (show W0.heap.size ≤ gx by omega) (.slice pe ne ce)
              generalize hW23 : (w21.setCell ⟨gx, 1, none⟩ (.bool de)).setCell ⟨gx, 2, none⟩ (.slice pe ne ce) = w23 at *
              have HXe := hid hx23
              have Hrowse := hid (OwnRows.off (OwnRows.off Hrows20.out hf21 (by decide) (by decide) (by decide)) hs12 (by decide) (by decide) (by decide))
              have HMe := hid (hs12.block _ _ _ (hf21.block _ _ _ HM20.out (by decide)) (by decide))
              have HRe := hid (hs12.block _ _ _ (hf21.block _ _ _ HR20.out (by decide)) (by decide))
              have HIe := hid ((hs12.own i21 (by decide)).mono (show wo.heap.size ≤ w20.heap.size by omega))
              have HTe := hid ((HT20.out.go b21).off hs12 (by decide) hBs)
              have HAe := hid ((HA20.out.go (Apart.of_below b21)).trans hAs (fun i hi2 => .inr (by omega)))
              have Hrse := Hrs
              have hz23 := hAs.size
              have Htabs21 := hid (OwnTabs.off Htabs20.out hf21 (by decide) (by decide) (by decide) (by decide))
              have Htabs : Hid (OwnTabs w.heap.size w23 (.slice p ts.length c) ts) := hid (OwnLs.kept Htabs21.out (fun g hg => hAs.block g (OwnLs.lt Htabs21.out g hg).2 (fun e => by
                have h1 := Hlow.out g hg
                have e : g = gx := e
                omega)) (fun c x hx => hx.off hs12 (by decide) (by decide) (by decide)))
              clear hs1 hx22 hs2 hx23 hs12 hAs hBs hf21 hx21 i21 b21 HX20 Hrows20 HM20 Htabs20 HR20 HA20 HT20 Htabs21
              obtain ⟨we2, rfl⟩ : ∃ we2, we2 = we := ⟨_, rfl⟩
              obtain ⟨we, rfl⟩ : ∃ we, we = w23 := ⟨_, rfl⟩
              have hx := rec3_cells HXe.out
              obtain ⟨q0, q1, q2⟩ := hx
              have hm := one_cell HMe.out
              obtain ⟨m0, m1⟩ := hm
              have b17 := below1 we (.cells #[.slice pr rows.length cr, .bool de, .slice pe ne ce] 46)
              have n17 := heap_alloc_new we (.cells #[.slice pr rows.length cr, .bool de, .slice pe ne ce] 46)
              have z17 := size_alloc we (.cells #[.slice pr rows.length cr, .bool de, .slice pe ne ce] 46)
              generalize hW17 : we.alloc (.cells #[.slice pr rows.length cr, .bool de, .slice pe ne ce] 46) = W17 at *
              have hnews : ∀ j u, ([.slice pr rows.length cr, .bool de, .slice pe ne ce] : List Value)[j]? = some u → W17.cell? ((⟨we.heap.size, 0, none⟩ : Addr).add j) = some u := by
                intro j u hj
                rw [Go.WideShapes.add_plain, Nat.zero_add, cell_of_row _ _ _ _ _ _ n17]
                simpa using hj
              have hf17 : OffT [] we W17 := OffT.of_below b17
              have hM17 := hf17.block _ _ _ HMe.out (by decide)
              have m2 := one_cell hM17
              obtain ⟨m2, m3⟩ := m2
              have htabs := OwnTabs.off Htabs.out hf17 (by decide) (by decide) (by decide) (by decide)
              obtain ⟨xs, hrow, hgo⟩ := htabs.row
              have Hrow := hid hrow; have Hgo := hid hgo
              have Hnew17 := hid (show TabIoQ w.heap.size W17 [.slice pr rows.length cr, .bool de, .slice pe ne ce] ⟨rows, zz⟩ from ⟨_, _, _, rfl, OwnRows.weaken (OwnRows.off Hrowse.out hf17 (by decide) (by decide) (by decide)) (by omega), by
                have hie := hf17.own HIe.out (by decide)
                obtain ⟨s', es, hos⟩ := hie
                injection es with es
                simp only [Array.mk.injEq, List.cons.injEq, and_true] at es
                obtain ⟨es1, es2⟩ := es
                injection es1 with es1
                subst es1 es2
                exact ⟨_, rfl, (show IntOwn W17 wo.heap.size _ zz from ⟨_, rfl, hos⟩).mono (by omega)⟩⟩)
              have HT17 := hid (HTe.out.go b17)
              have HA17 := hid (HAe.out.go (Apart.of_below b17))
              have hR17 := hid (hf17.block _ _ _ HRe.out (by decide))
              have hsz17 : w.heap.size + 1 < W17.heap.size := by omega
              have HM17 := hid hM17
              clear hgo hM17 htabs n17 hf17
              go_wp2_with (at_builtin; refine wpList_append_own _ rfl _ _ 26 rfl w.heap.size 46 i2 _ 3 56 Tryz.underlying26 hiT ht0 ht1 ht2 rfl (by decide) _ ts.length _ rfl hrow ⟨we.heap.size, 0, none⟩ 1 1 [.slice pr rows.length cr, .bool de, .slice pe ne ce] rfl rfl hnews (by intro u hu; simp at hu; rcases hu with rfl | rfl | rfl <;> rfl) (by simp [maxLen]; omega) (by omega) (by omega) ?_; intro v18 w18 ho18 hg18 _; obtain ⟨p18, c18, rfl⟩ := ownsRow_shape ho18; have hf18 := OffT.of_grown Hrow.out hg18; have hM18 := hf18.block _ _ _ HM17.out (by decide); have m4 := one_cell hM18; obtain ⟨m4, m5⟩ := m4)
              have hfs := OffT.set hM18 0 (.slice p18 (ts.length + 1) c18)
              have hnew := Hgo.out w18 _ [.slice pr rows.length cr, .bool de, .slice pe ne ce] ⟨rows, zz⟩ ho18 rfl (fun c x hx => hx.off hf18 (by decide) (by decide) (by decide)) (Hnew17.out.off hf18 (by decide) (by decide) (by decide))
              have hnewF := OwnTabs.off hnew hfs (by decide) (by decide) (by decide) (by decide)
              have hMF : (w18.setCell ⟨w.heap.size + 1, 0, none⟩ (.slice p18 (ts.length + 1) c18)).heap[w.heap.size + 1]? = some (.cells #[.slice p18 (ts.length + 1) c18] 28 (0, 0)) := by simpa using heap_setCell_same w18 (w.heap.size + 1) 0 _ _ (.slice p18 (ts.length + 1) c18) hM18
              have hRF : (w18.setCell ⟨w.heap.size + 1, 0, none⟩ (.slice p18 (ts.length + 1) c18)).heap[w.heap.size]? = some (.cells #[.slice none 0 0] 28 (0, 0)) := (Below.heap_setCell _ _ _ _ (show w.heap.size ≠ w.heap.size + 1 by omega)).trans (hf18.block _ _ _ hR17.out (by decide))
              have hrowge : ∀ i, (Value.slice p ts.length c).ownBlock = some i → w.heap.size ≤ i := fun i hi2 => (World.ownsRow.lt Hrow.out i hi2).1
              have hAF : Apart (fun i => i = t) w (w18.setCell ⟨w.heap.size + 1, 0, none⟩ (.slice p18 (ts.length + 1) c18)) :=
                ((hA.out.go HA17.out).trans ((Apart.refl (fun i => (Value.slice p ts.length c).ownBlock = some i) W17).grown hg18 (fun k hk => hk)) (fun i hi2 => .inr (hrowge i hi2))).trans (Apart.setCell (p := ⟨w.heap.size + 1, 0, none⟩) (Apart.refl (fun i => i = w.heap.size + 1) w18) rfl _) (fun i hi2 => .inr (by omega))
              have hTF := HT17.out.off (hf18.mono (Ts' := [46, 28]) (by simp) |>.trans (hfs.mono (by simp))) (by decide) (((HT17.out.2.2.2.1.grown hg18 (by omega) (fun g hg => by have := hrowge g hg; omega))).setCell (p := ⟨w.heap.size + 1, 0, none⟩) (by show W0.heap.size ≤ w.heap.size + 1; omega) _)
              have Hrel := hid (show ∃ p c ts', (w18.setCell ⟨w.heap.size + 1, 0, none⟩ (.slice p18 (ts.length + 1) c18)).heap[w.heap.size + 1]? = some (.cells #[.slice p ts'.length c] 28 (0, 0)) ∧ OwnTabs w.heap.size (w18.setCell ⟨w.heap.size + 1, 0, none⟩ (.slice p18 (ts.length + 1) c18)) (.slice p ts'.length c) ts' ∧ ts'.length = k + 1 ∧ ∀ x ∈ ts', TSm x from
                ⟨p18, c18, ts ++ [⟨rows, zz⟩], by simpa using hMF, by simpa using hnewF, by simp [Hln.out], fun x hx => by
                  rcases List.mem_append.1 hx with h1 | h1
                  · exact Hsm.out x h1
                  · rw [List.mem_singleton.1 h1]; exact ⟨Hrse.out, hzz⟩⟩)
              have HRF := hid hRF; have HAF := hid hAF; have HTF := hid hTF
              clear hnew hnewF hMF hRF hAF hTF hfs hf18 hg18 ho18 hM18 hrowge
              go_roundw
              case rel => exact ⟨k + 1, by omega, by go_num, Hrel, HTF, HAF, HRF⟩
              case measure => simp [intOf] <;> omega
            ·
              go_wp2_with fail
              clear q0 q1 q2 y0 y1 y2
              refine (Next_in 2 HTm.out (by decide)).mono ?_
              rintro e w20 ⟨k2, rfl, hk2, ht20, hA20⟩
              have hk2' : (k2 : Int) ≤ 1 := by omega
              have hf20 := HTm.out.offT hA20
              have HX20 := hid (hf20.block _ _ _ HX.out (by decide))
              have Hrows20 := hid (OwnRows.off Hrows.out hf20 (by decide) (by decide) (by decide))
              have HM20 := hid (hf20.block _ _ _ HMe.out (by decide))
              have Htabs20 := hid (OwnTabs.off Htabs.out hf20 (by decide) (by decide) (by decide) (by decide))
              have HR20 := hid (hf20.block _ _ _ HRe.out (by decide))
              have HA20 := hid (HAw.out.go hA20)
              have HT20 := hid ht20
              have hz20 := hA20.size
              clear hk2 ht20 hA20 hf20 HX Hrows HMe Htabs HRe HI6 HN
              go_wp2_with fail
              refine (ROf_own (k2 : Int) w20 (by omega) (by omega)).mono ?_
              rintro e w21 ⟨v21, rfl, i21, b21⟩
              obtain ⟨pe, ne, ce, rfl, i21⟩ := i21.shape
              have hzz : NSm (k2 : Int) := NSm.of (by omega) (by omega)
              generalize hzk : (k2 : Int) = zz at *
              obtain ⟨de, hde⟩ : ∃ de, de = decide (zz < 0) := ⟨_, rfl⟩
              rw [← hde] at i21 ⊢
              clear hde
              have hf21 : OffT [] w20 w21 := OffT.of_below b21
              have hx21 := hf21.block _ _ _ HX20.out (by decide)
              have hz21 := b21.size
              have hcc := rec3_cells hx21
              obtain ⟨q0, q1, q2⟩ := hcc
              have fz1 := frozen_all hx21 1
              have fz2 := frozen_all hx21 2
              have hs1 := OffT.set hx21 1 (.bool de)
              have hx22 : (w21.setCell ⟨gx, 1, none⟩ (.bool de)).heap[gx]? = some (.cells #[.slice pr rows.length cr, .bool de, .slice p6 n6 c6] 46 (0, 0)) := by simpa using heap_setCell_same w21 gx 1 _ _ (.bool de) hx21
              have hs2 := OffT.set hx22 2 (.slice pe ne ce)
              have hx23 : ((w21.setCell ⟨gx, 1, none⟩ (.bool de)).setCell ⟨gx, 2, none⟩ (.slice pe ne ce)).heap[gx]? = some (.cells #[.slice pr rows.length cr, .bool de, .slice pe ne ce] 46 (0, 0)) := by simpa using heap_setCell_same (w21.setCell ⟨gx, 1, none⟩ (.bool de)) gx 2 _ _ (.slice pe ne ce) hx22
              have hs12 := hs1.trans hs2
              have hAs : Apart (fun i => i = gx) w21 ((w21.setCell ⟨gx, 1, none⟩ (.bool de)).setCell ⟨gx, 2, none⟩ (.slice pe ne ce)) := Apart.setCell (p := ⟨gx, 2, none⟩) (Apart.setCell (p := ⟨gx, 1, none⟩) (Apart.refl (fun i => i = gx) w21) rfl _) rfl _
              have hBs := (((HT20.out.go b21).2.2.2.1).setCell (p := ⟨gx, 1, none⟩) (show W0.heap.size ≤ gx by omega) (.bool de)).setCell (p := ⟨gx, 2, none⟩) (show W0.heap.size ≤ gx by omega) (.slice pe ne ce)
              generalize hW23 : (w21.setCell ⟨gx, 1, none⟩ (.bool de)).setCell ⟨gx, 2, none⟩ (.slice pe ne ce) = w23 at *
              have HXe := hid hx23
              have Hrowse := hid (OwnRows.off (OwnRows.off Hrows20.out hf21 (by decide) (by decide) (by decide)) hs12 (by decide) (by decide) (by decide))
              have HMe := hid (hs12.block _ _ _ (hf21.block _ _ _ HM20.out (by decide)) (by decide))
              have HRe := hid (hs12.block _ _ _ (hf21.block _ _ _ HR20.out (by decide)) (by decide))
              have HIe := hid ((hs12.own i21 (by decide)).mono (show wo.heap.size ≤ w20.heap.size by omega))
              have HTe := hid ((HT20.out.go b21).off hs12 (by decide) hBs)
              have HAe := hid ((HA20.out.go (Apart.of_below b21)).trans hAs (fun i hi2 => .inr (by omega)))
              have Hrse := Hrs
              have hz23 := hAs.size
              have Htabs21 := hid (OwnTabs.off Htabs20.out hf21 (by decide) (by decide) (by decide) (by decide))
              have Htabs : Hid (OwnTabs w.heap.size w23 (.slice p ts.length c) ts) := hid (OwnLs.kept Htabs21.out (fun g hg => hAs.block g (OwnLs.lt Htabs21.out g hg).2 (fun e => by
                have h1 := Hlow.out g hg
                have e : g = gx := e
                omega)) (fun c x hx => hx.off hs12 (by decide) (by decide) (by decide)))
              clear hs1 hx22 hs2 hx23 hs12 hAs hBs hf21 hx21 i21 b21 HX20 Hrows20 HM20 Htabs20 HR20 HA20 HT20 Htabs21
              obtain ⟨we2, rfl⟩ : ∃ we2, we2 = we := ⟨_, rfl⟩
              obtain ⟨we, rfl⟩ : ∃ we, we = w23 := ⟨_, rfl⟩
              have hx := rec3_cells HXe.out
              obtain ⟨q0, q1, q2⟩ := hx
              have hm := one_cell HMe.out
              obtain ⟨m0, m1⟩ := hm
              have b17 := below1 we (.cells #[.slice pr rows.length cr, .bool de, .slice pe ne ce] 46)
              have n17 := heap_alloc_new we (.cells #[.slice pr rows.length cr, .bool de, .slice pe ne ce] 46)
              have z17 := size_alloc we (.cells #[.slice pr rows.length cr, .bool de, .slice pe ne ce] 46)
              generalize hW17 : we.alloc (.cells #[.slice pr rows.length cr, .bool de, .slice pe ne ce] 46) = W17 at *
              have hnews : ∀ j u, ([.slice pr rows.length cr, .bool de, .slice pe ne ce] : List Value)[j]? = some u → W17.cell? ((⟨we.heap.size, 0, none⟩ : Addr).add j) = some u := by
                intro j u hj
                rw [Go.WideShapes.add_plain, Nat.zero_add, cell_of_row _ _ _ _ _ _ n17]
                simpa using hj
              have hf17 : OffT [] we W17 := OffT.of_below b17
              have hM17 := hf17.block _ _ _ HMe.out (by decide)
              have m2 := one_cell hM17
              obtain ⟨m2, m3⟩ := m2
              have htabs := OwnTabs.off Htabs.out hf17 (by decide) (by decide) (by decide) (by decide)
              obtain ⟨xs, hrow, hgo⟩ := htabs.row
              have Hrow := hid hrow; have Hgo := hid hgo
              have Hnew17 := hid (show TabIoQ w.heap.size W17 [.slice pr rows.length cr, .bool de, .slice pe ne ce] ⟨rows, zz⟩ from ⟨_, _, _, rfl, OwnRows.weaken (OwnRows.off Hrowse.out hf17 (by decide) (by decide) (by decide)) (by omega), by
                have hie := hf17.own HIe.out (by decide)
                obtain ⟨s', es, hos⟩ := hie
                injection es with es
                simp only [Array.mk.injEq, List.cons.injEq, and_true] at es
                obtain ⟨es1, es2⟩ := es
                injection es1 with es1
                subst es1 es2
                exact ⟨_, rfl, (show IntOwn W17 wo.heap.size _ zz from ⟨_, rfl, hos⟩).mono (by omega)⟩⟩)
              have HT17 := hid (HTe.out.go b17)
              have HA17 := hid (HAe.out.go (Apart.of_below b17))
              have hR17 := hid (hf17.block _ _ _ HRe.out (by decide))
              have hsz17 : w.heap.size + 1 < W17.heap.size := by omega
              have HM17 := hid hM17
              clear hgo hM17 htabs n17 hf17
              go_wp2_with (at_builtin; refine wpList_append_own _ rfl _ _ 26 rfl w.heap.size 46 i2 _ 3 56 Tryz.underlying26 hiT ht0 ht1 ht2 rfl (by decide) _ ts.length _ rfl hrow ⟨we.heap.size, 0, none⟩ 1 1 [.slice pr rows.length cr, .bool de, .slice pe ne ce] rfl rfl hnews (by intro u hu; simp at hu; rcases hu with rfl | rfl | rfl <;> rfl) (by simp [maxLen]; omega) (by omega) (by omega) ?_; intro v18 w18 ho18 hg18 _; obtain ⟨p18, c18, rfl⟩ := ownsRow_shape ho18; have hf18 := OffT.of_grown Hrow.out hg18; have hM18 := hf18.block _ _ _ HM17.out (by decide); have m4 := one_cell hM18; obtain ⟨m4, m5⟩ := m4)
              have hfs := OffT.set hM18 0 (.slice p18 (ts.length + 1) c18)
              have hnew := Hgo.out w18 _ [.slice pr rows.length cr, .bool de, .slice pe ne ce] ⟨rows, zz⟩ ho18 rfl (fun c x hx => hx.off hf18 (by decide) (by decide) (by decide)) (Hnew17.out.off hf18 (by decide) (by decide) (by decide))
              have hnewF := OwnTabs.off hnew hfs (by decide) (by decide) (by decide) (by decide)
              have hMF : (w18.setCell ⟨w.heap.size + 1, 0, none⟩ (.slice p18 (ts.length + 1) c18)).heap[w.heap.size + 1]? = some (.cells #[.slice p18 (ts.length + 1) c18] 28 (0, 0)) := by simpa using heap_setCell_same w18 (w.heap.size + 1) 0 _ _ (.slice p18 (ts.length + 1) c18) hM18
              have hRF : (w18.setCell ⟨w.heap.size + 1, 0, none⟩ (.slice p18 (ts.length + 1) c18)).heap[w.heap.size]? = some (.cells #[.slice none 0 0] 28 (0, 0)) := (Below.heap_setCell _ _ _ _ (show w.heap.size ≠ w.heap.size + 1 by omega)).trans (hf18.block _ _ _ hR17.out (by decide))
              have hrowge : ∀ i, (Value.slice p ts.length c).ownBlock = some i → w.heap.size ≤ i := fun i hi2 => (World.ownsRow.lt Hrow.out i hi2).1
              have hAF : Apart (fun i => i = t) w (w18.setCell ⟨w.heap.size + 1, 0, none⟩ (.slice p18 (ts.length + 1) c18)) :=
                ((hA.out.go HA17.out).trans ((Apart.refl (fun i => (Value.slice p ts.length c).ownBlock = some i) W17).grown hg18 (fun k hk => hk)) (fun i hi2 => .inr (hrowge i hi2))).trans (Apart.setCell (p := ⟨w.heap.size + 1, 0, none⟩) (Apart.refl (fun i => i = w.heap.size + 1) w18) rfl _) (fun i hi2 => .inr (by omega))
              have hTF := HT17.out.off (hf18.mono (Ts' := [46, 28]) (by simp) |>.trans (hfs.mono (by simp))) (by decide) (((HT17.out.2.2.2.1.grown hg18 (by omega) (fun g hg => by have := hrowge g hg; omega))).setCell (p := ⟨w.heap.size + 1, 0, none⟩) (by show W0.heap.size ≤ w.heap.size + 1; omega) _)
              have Hrel := hid (show ∃ p c ts', (w18.setCell ⟨w.heap.size + 1, 0, none⟩ (.slice p18 (ts.length + 1) c18)).heap[w.heap.size + 1]? = some (.cells #[.slice p ts'.length c] 28 (0, 0)) ∧ OwnTabs w.heap.size (w18.setCell ⟨w.heap.size + 1, 0, none⟩ (.slice p18 (ts.length + 1) c18)) (.slice p ts'.length c) ts' ∧ ts'.length = k + 1 ∧ ∀ x ∈ ts', TSm x from
                ⟨p18, c18, ts ++ [⟨rows, zz⟩], by simpa using hMF, by simpa using hnewF, by simp [Hln.out], fun x hx => by
                  rcases List.mem_append.1 hx with h1 | h1
                  · exact Hsm.out x h1
                  · rw [List.mem_singleton.1 h1]; exact ⟨Hrse.out, hzz⟩⟩)
              have HRF := hid hRF; have HAF := hid hAF; have HTF := hid hTF
              clear hnew hnewF hMF hRF hAF hTF hfs hf18 hg18 ho18 hM18 hrowge
              go_roundw
              case rel => exact ⟨k + 1, by omega, by go_num, Hrel, HTF, HAF, HRF⟩
              case measure => simp [intOf] <;> omega
    · obtain rfl : k = S := by omega
      obtain ⟨p, c, ts, hMe, htabs, hln, hsm⟩ := hM.out
      have hx := one_cell hMe
      obtain ⟨m0, m1⟩ := hx
      have hr := one_cell hR.out
      obtain ⟨r0, r1⟩ := hr
      have hfs := OffT.set hR.out 0 (.slice p ts.length c)
      have hq : (wr.setCell ⟨w.heap.size, 0, none⟩ (.slice p ts.length c)).heap[w.heap.size]? = some (.cells #[.slice p ts.length c] 28 (0, 0)) := by simpa using heap_setCell_same wr w.heap.size 0 _ _ (.slice p ts.length c) hR.out
      have q0 := (one_cell hq).1
      have H1 := hid (OwnTabs.off htabs hfs (by decide) (by decide) (by decide) (by decide))
      have H2 := hid (hT.out.off hfs (by decide) (hT.out.2.2.2.1.setCell (p := ⟨w.heap.size, 0, none⟩) hW0 _))
      have H3 := hid (hA.out.trans (Apart.setCell (p := ⟨w.heap.size, 0, none⟩) (Apart.refl (fun i => i = w.heap.size) wr) rfl (.slice p ts.length c)) (fun i hi2 => .inr (by omega)))
      have Hln := hid hln; have Hsm := hid hsm
      clear htabs hfs hq hMe hln hsm
      go_wp2
      exact bodyPost_ret (v := .agg #[.slice p ts.length c]) (by simp [results, Tryz.results18, go_sem, q0]) rfl ⟨_, ts, rfl, H1.out, Hln.out, Hsm.out, H2.out, H3.out⟩
end Go.Proofs.YtckkpolikdnilaaGreatDoor
/- elenchusref05.Eval and True. -/
namespace Go.Proofs.YtckkpolikdnilaaGreatDoor
open Go.RowKit Big Go.WideMaps

def RTVals (l : List Int) (w : World) (e : Ending) (w' : World) : Prop := ∃ v, e = .returned (.tuple #[v, .int .i64 0]) ∧ NumsTold w' v l ∧ Below w.heap.size w w'
set_option maxRecDepth 100000 in
set_option maxHeartbeats 3200000 in
theorem RTrue_any (vs vt vm : Value) (hv : ∃ p n c p' n' c' p2 n2 c2, vs = .slice p n c ∧ vt = .slice p' n' c' ∧ vm = .slice p2 n2 c2) (k : Nat) (l : List Int) (w : World) (hk : k < l.length) (hs : ∀ z ∈ l, sz Big.W z.natAbs ≤ 1099511627776)
    (h : ∀ w', Below w.heap.size w w' → Calls Tryz.prog 31 #[.agg #[vs, vt], .agg #[vm]] w' (RTold l w')) :
    Calls Tryz.prog 21 #[.agg #[vs, vt], .agg #[vm], .int .i64 (k : Nat)] w (RBool (l[k] != 0) w) := by
  obtain ⟨p, n, cc, p', n', c', p2, n2, c2, rfl, rfl, rfl⟩ := hv
  have b0 : Below w.heap.size w ((w.alloc (.cells #[.slice p n cc, .slice p' n' c'] 25)).alloc (.cells #[.slice p2 n2 c2] 28)) := (below1 w _).alloc (by simp) _
  have H := hid (h _ b0)
  have B0 := hid b0
  have Hs := hid hs
  have hki : (k : Int) < (l.length : Int) := by omega
  obtain ⟨x, hx⟩ : ∃ x, x = l[k] := ⟨_, rfl⟩
  rw [← hx]
  have HK := hid hk
  have Hx := hid hx
  obtain ⟨r, hr0⟩ : ∃ r : Bool, r = (x != 0) := ⟨_, rfl⟩
  rw [← hr0]
  have Hr0 := hid hr0
  clear h b0 hs hr0 hx
  go_enter Tryz.func21, Tryz.ntmps21
  go_wp2_with fail
  refine H.out.mono ?_
  rintro e w1 ⟨v1, rfl, hi, b1⟩
  have hat := (hi.in Hs.out).at k HK.out
  obtain ⟨b5, o5, c5, x5, q5, d5, g5, rfl, hb5, n0, n1, hr⟩ := hat
  have B1 := hid (bel_go b1 B0.out)
  rw [← Hx.out] at hr
  have HS := hid (RSign_any _ x w1 hr)
  have hsg : Hid ((x.sign != 0) = r) := hid (by rw [Hr0.out]; unfold bne; rw [sign_zero])
  generalize x.sign = sg at *
  clear H hi b1 hr
  go_wp2_with fail
  refine HS.out.mono ?_
  rintro e w2 ⟨rfl, b2⟩
  have B2 := hid (bel_go b2 B1.out)
  clear b2 HS n0 n1
  go_wp2
  go_ret
  exact ⟨by rw [← hsg.out]; rfl, B2.out⟩
end Go.Proofs.YtckkpolikdnilaaGreatDoor
/- elenchusref04.Few; PoolChecks answers true. -/
namespace Go.Proofs.YtckkpolikdnilaaGreatDoor
open Go.RowKit Big Go.WideMaps

def fewT (x : Tx) : Bool := decide (x.args.length ≤ 70) && decide (x.words.length ≤ 8)
def plFew (sy : List Sy) (tx : List Tx) : Bool := decide (sy.length ≤ 40) && decide (tx.length ≤ 200) && tx.all fewT
theorem TxsIn.below {w w' : World} {v : Value} {l : List Tx} (h : TxsIn w v l) (hb : Below w.heap.size w w') : TxsIn w' v l := by
  obtain ⟨p, cap, rfl, h1, h2, h3, h4⟩ := h
  refine ⟨p, cap, rfl, h1, h2, h3, fun hp => ?_⟩
  obtain ⟨b, off, h5, h6, h7⟩ := h4 hp
  refine ⟨b, off, h5, Nat.lt_of_lt_of_le h6 hb.size, fun i hi => ?_⟩
  obtain ⟨c0, c1, c2, c3, c4, e0, e1, e2, e3, e4, ht⟩ := h7 i hi
  have c : ∀ o, w'.cell? ⟨b, o, none⟩ = w.cell? ⟨b, o, none⟩ := fun o => hb.cell (p := ⟨b, o, none⟩) h6
  exact ⟨c0, c1, c2, c3, c4, (c _).trans e0, (c _).trans e1, (c _).trans e2, (c _).trans e3, (c _).trans e4, ht.below hb⟩
theorem TxsIn.small {w : World} {v : Value} {l : List Tx} (h : TxsIn w v l) : ∀ x ∈ l, Small W x.words := by
  obtain ⟨p, cap, rfl, h1, h2, h3, h4⟩ := h
  intro x hx
  obtain ⟨i, hi, rfl⟩ := List.mem_iff_getElem.1 hx
  obtain ⟨b, off, -, -, hc⟩ := h4 (by omega)
  obtain ⟨c0, c1, c2, c3, c4, -, -, -, -, -, ⟨_, _, _, _, _, _, _, hs⟩⟩ := hc i hi
  exact hs
end Go.Proofs.YtckkpolikdnilaaGreatDoor
/- ValueEvals answers true. -/
namespace Go.Proofs.YtckkpolikdnilaaGreatDoor
open Go.RowKit Big Go.WideMaps

theorem steps_of_check {syms : List Sy} {terms : List Tm} (h : plCheck syms terms = 0) : Steps ⟨syms, [], []⟩ terms := by
  unfold plCheck at h
  split at h
  · next h1 => exact absurd h h1
  · exact steps_of_news terms ⟨syms, [], []⟩ (by simp) h
/-- what both Evals answer -/
def RBoth (syms : List Sy) (terms : List Tm) (ts : List Tb5) (w : World) (e : Ending) (w' : World) : Prop :=
  ∃ v c, e = .returned (.tuple #[v, .int .i64 c]) ∧ c = (if plCheck syms terms ≠ 0 then plCheck syms terms else if ts.length < syms.length then 13 else 0) ∧ NumsTold w' v (if plCheck syms terms ≠ 0 ∨ ts.length < syms.length then [] else vlEval syms ts terms []) ∧ Below w.heap.size w w'
/-- what is asked of rows and models that are asked about -/
structure VlAsk (N : Nat) (syms : List Sy) (terms : List Tm) (ts : List Tb5) : Prop where
  one : 1 ≤ N
  name : ∀ s ∈ syms, s.name.length ≤ 281474976710656
  args : ∀ t ∈ terms, t.args.length ≤ 1048576
  num : ∀ t ∈ terms, sz Big.W t.num.natAbs ≤ N
  len : terms.length * N ≤ 268435456
  sized : Sized N ts
  rows : Rows9 ts
theorem VlAsk.small {N : Nat} {syms : List Sy} {terms : List Tm} {ts : List Tb5} (h : VlAsk N syms terms ts) : ∀ t ∈ terms, sz Big.W t.num.natAbs ≤ 549755813888 := by
  intro t ht
  have h1 := h.num t ht
  have h2 : 0 < terms.length := List.length_pos_of_mem ht
  have h3 : N ≤ terms.length * N := Nat.le_mul_of_pos_left _ h2
  have h4 := h.len
  omega
theorem VlAsk.few {N : Nat} {syms : List Sy} {terms : List Tm} {ts : List Tb5} (h : VlAsk N syms terms ts) : terms.length ≤ 1048576 * 256 := Nat.le_trans (Nat.le_mul_of_pos_right _ h.one) (Nat.le_trans h.len (by decide))
theorem TbxsIn.ask {w : World} {v : Value} {l : List Tbx} (h : TbxsIn w v l) (hf : ∀ x ∈ l, x.fit) : Rows9 (l.map Tbx.t) := by
  intro t ht
  obtain ⟨x, hx, rfl⟩ := List.mem_map.1 ht
  obtain ⟨i, hi, rfl⟩ := List.mem_iff_getElem.1 hx
  obtain ⟨b, o, c, cs, -, -, -, hq⟩ := h.at i hi
  exact hq.rows9 (hf _ hx)
end Go.Proofs.YtckkpolikdnilaaGreatDoor
/- What the laws over tapes share: rows and a model that elenchusmake makes, their values by the program and by the reference. -/
namespace Go.Proofs.YtckkpolikdnilaaGreatDoor
open Go.RowKit Big Go.WideMaps

theorem mkSyms_ok5 : plNewErr mkSyms = 0 := by kernel_rfl
theorem sorts_good {p : Po} (h : PoGood p) : VlSorts p.syms p.terms (fun k => plSortAt p (k : Nat)) := by
  refine ⟨fun k hk e => ?_, fun k hk e => ?_, fun k hk e => ?_, fun k hk e1 e2 e3 e4 e5 => ?_⟩
  · obtain ⟨-, h2, -, -, h5⟩ := h.2.2.2 k hk
    obtain ⟨h1, j, hj, hjk⟩ := h2 e
    refine ⟨j, h1, hj, hjk, ?_⟩
    rw [h5]
    unfold plSort
    rw [if_neg (by omega), if_pos e, List.getElem?_eq_getElem h1]
    show plSortAt p (p.terms[k].args[1]) = _
    rw [hj]
  · obtain ⟨-, -, -, -, h5⟩ := h.2.2.2 k hk
    rw [h5, plSort_three p _ e]
  · obtain ⟨h1, -, -, -, h5⟩ := h.2.2.2 k hk
    obtain ⟨j, hj, hjl⟩ := h1 e
    refine ⟨j, hjl, hj, ?_⟩
    rw [h5]
    unfold plSort plSymAt
    rw [if_pos e, hj]
    simp [hjl]
  · obtain ⟨-, -, h3, h4, h5⟩ := h.2.2.2 k hk
    rw [h5, plSort_bool p _ h3 h4 e2 e5 e1 e3 e4]
/-- what is asked of made rows and models -/
theorem mk_ask {p : Po} {ts : List Tb5} (hp : MkP p) (hsy : p.syms = mkSyms) (hts : ∀ t ∈ ts, TSm t) : VlAsk 8 p.syms p.terms ts := {
  one := by decide
  name := by rw [hsy]; decide
  args := fun t ht => Nat.le_trans (hp.small t ht).1 (by decide)
  num := fun t ht => (hp.small t ht).2
  len := by have := hp.good.2.1; omega
  sized := fun t ht => ⟨Nat.le_trans (hts t ht).2 (by decide), fun r hr => Nat.le_trans ((hts t ht).1 r hr).2 (by decide)⟩
  rows := rows9_small hts }
theorem mk_check {p : Po} (hp : MkP p) (hsy : p.syms = mkSyms) : plCheck p.syms p.terms = 0 := hp.self.check (by rw [hsy]; exact mkSyms_ok5)
theorem mk_eval {p : Po} {ts : List Tb5} (hp : MkP p) (hsy : p.syms = mkSyms) (hts : ∀ t ∈ ts, TSm t) (hl : p.syms.length ≤ ts.length) (vs vt vm : Value) (w : World) (htab : Tb w.heap.size w) (hs : SyIn w vs p.syms) (ht : TmsIn w vt p.terms) (hm : TabsIn w vm ts) :
    Calls Tryz.prog 11 #[.agg #[vs, vt], .agg #[vm]] w (RVals (vlEval p.syms ts p.terms []) w) := by
  have ha := mk_ask hp hsy hts
  have hc := mk_check hp hsy
  exact Eval_ok vs vt vm p.syms p.terms ts w htab hs ht hm ha.name ha.args hc hl (Nat.le_trans hp.good.2.1 (by decide)) (fit_at ha.one ha.sized (steps_of_check hc) ha.num hl ha.len)
theorem mk_values {p : Po} {ts : List Tb5} (hp : MkP p) (hsy : p.syms = mkSyms) (hts : ∀ t ∈ ts, TSm t) (hl : p.syms.length ≤ ts.length) (vs vt vm : Value) (w : World) (hs : SyIn w vs p.syms) (ht : TmsIn w vt p.terms) (hm : TabsIn w vm ts) :
    Calls Tryz.prog 31 #[.agg #[vs, vt], .agg #[vm]] w (RTold (vlEval p.syms ts p.terms []) w) := by
  have ha := mk_ask hp hsy hts
  have hc := mk_check hp hsy
  exact Values_any ha.one vs vt vm p.syms p.terms ts w hs ht hm (steps_of_check hc) ha.args ha.sized ha.num hl ha.len ha.rows
theorem mk_size {p : Po} {ts : List Tb5} (hp : MkP p) (hsy : p.syms = mkSyms) (hts : ∀ t ∈ ts, TSm t) : ∀ z ∈ vlEval p.syms ts p.terms [], sz Big.W z.natAbs ≤ 1099511627776 := by
  have ha := mk_ask hp hsy hts
  have h := eval_size ha.one ha.sized (steps_of_check (mk_check hp hsy)) ha.num p.terms.length (Nat.le_refl _)
  rw [List.take_length] at h
  exact fun z hz => Nat.le_trans (h z hz) (Nat.le_trans ha.len (by decide))
end Go.Proofs.YtckkpolikdnilaaGreatDoor
/- A build's rows as they are handed on; a condition, its Not, its And, its Or with its Not, in a build's rows. -/
namespace Go.Proofs.YtckkpolikdnilaaGreatDoor
open Go.RowKit Big Go.WideMaps

theorem MkParts.syin {W0 w : World} {X : Nat → Prop} {b t : Nat} {vB : Value} {bs : List Nat} {p : Po} {us : List Int} {vs vr vy : Value} (h : MkParts W0 X w b t vB bs p us vs vr vy) : SyIn w vs p.syms :=
  (SyAt.own (ownsRow_mono h.syms (Nat.zero_le _))).handed
theorem MkParts.tmin {W0 w : World} {X : Nat → Prop} {b t : Nat} {vB : Value} {bs : List Nat} {p : Po} {us : List Int} {vs vr vy : Value} (h : MkParts W0 X w b t vB bs p us vs vr vy) : TmsIn w vr p.terms :=
  h.rows.tms (fun va l q => IAt.own (ownsRow_mono q.1 (Nat.zero_le _))) (fun x hx => Nat.le_trans (h.mkp.small x hx).2 (by decide))
theorem mk_three (p : Po) (a : Nat) (ha : IsTm p a 1) : plWrong p ⟨6, [(a : Nat), (a : Nat), (a : Nat)], 0, 0⟩ = 0 := mk_right (by rfl) (by rfl) (by rfl) (fun i h => by
  have hi : i = 0 ∨ i = 1 ∨ i = 2 := by simp at h; omega
  rcases hi with rfl | rfl | rfl
  · exact ⟨a, rfl, ha⟩
  · exact ⟨a, rfl, ha⟩
  · exact ⟨a, rfl, ha⟩)
theorem get_ext {p p' : Po} {k : Nat} {t : Tm} (h : p.terms[k]? = some t) (e : MkExt p p') : p'.terms[k]? = some t := by
  have hk := (List.getElem?_eq_some_iff.1 h).1
  exact (e.2.2 k hk).1.trans h
theorem get_at {p : Po} {k : Nat} {t : Tm} (h : p.terms[k]? = some t) : ∃ hk : k < p.terms.length, p.terms[k] = t := by
  have := List.getElem?_eq_some_iff.1 h
  exact ⟨this.1, this.2⟩
end Go.Proofs.YtckkpolikdnilaaGreatDoor
/- ValueOpposes answers true. -/
namespace Go.Proofs.YtckkpolikdnilaaGreatDoor
open Go.RowKit Big Go.WideMaps

set_option maxRecDepth 100000 in
set_option maxHeartbeats 12800000 in
theorem lawOpposes_any (va vb : Value) (bs ds : List Nat) (w : World) (htab : Tb w.heap.size w) (hb : At w .u8 va bs) (hs : ∀ y ∈ bs, y < 256) (hd : At w .u8 vb ds) (hsd : ∀ y ∈ ds, y < 256) :
    Calls Tryz.prog 7 #[va, vb] w (RBool true w) := by
  have Hb := hid hb; have Hs := hid hs; have Htab := hid htab; have Hd := hid hd; have Hsd := hid hsd
  obtain ⟨pa, ca, rfl, i1, i2, -, -⟩ := hb
  obtain ⟨pb, cb, rfl, j1, j2, -, -⟩ := hd
  unfold maxLen at i2 j2
  have Hfx := hid (fixed5_any w htab)
  clear htab hs hsd
  go_enter Tryz.func7, Tryz.ntmps7
  go_wp2_with fail
  refine Hfx.out.mono ?_
  rintro e w1 ⟨rfl, b1⟩
  have Hb1 := hid b1
  clear b1 Hfx
  cases h300 : decide ((300 : Int) < (bs.length : Int))
  case true =>
    go_wp2
    go_ret
    exact ⟨rfl, Hb1.out⟩
  case false =>
  cases h200 : decide ((200 : Int) < (ds.length : Int))
  case true =>
    go_wp2
    go_ret
    exact ⟨rfl, Hb1.out⟩
  case false =>
  have b2 := below1 w1 (.cells #[.slice pa bs.length ca, .int .i64 0] 54)
  have hc2 := heap_alloc_new w1 (.cells #[.slice pa bs.length ca, .int .i64 0] 54)
  have HT := hid (show TpIn w (w1.alloc (.cells #[.slice pa bs.length ca, .int .i64 0] 54)) w1.heap.size (.slice pa bs.length ca) bs from ⟨Hb.out, Hs.out, Hb1.out.size, bel_go b2 Hb1.out, 0, Nat.zero_le _, hc2⟩)
  have HSt := hid (Start_any HT.out)
  have hsz2 : w.heap.size ≤ (w1.alloc (.cells #[.slice pa bs.length ca, .int .i64 0] 54)).heap.size := (bel_go b2 Hb1.out).size
  clear b2 hc2 HT
  go_wp2_with fail
  refine HSt.out.mono ?_
  rintro e w2 ⟨b, rfl, hm2, hb2⟩
  have HM2 := hid hm2
  have HBs2 : Hid (w.heap.size ≤ w2.heap.size) := hid (Nat.le_trans hsz2 hb2.size)
  clear hm2 hb2 HSt hsz2 h300 h200
  have H3 := hid ((mk_all (W0 := w) (b := b) (t := w1.heap.size) (vB := .slice pa bs.length ca) (bs := bs) (us := zr 7) 3 (by omega)).2 _ w2 _ HM2.out (by decide))
  have hN3 : mkN 3 = 93 := by decide
  rw [hN3] at H3
  clear hN3
  go_wp2_with fail
  refine H3.out.mono ?_
  rintro e w3 ⟨x, p3, rfl, hm3, he3, hx3, -, hl3, hf3⟩
  have HM3 := hid hm3; have HE3 := hid he3; have HX3 := hid hx3
  have hl3 : p3.terms.length ≤ 93 := by simpa using hl3
  have HBs3 : Hid (w.heap.size ≤ w3.heap.size) := hid (by have := HBs2.out; have := hf3.size; omega)
  clear hm3 he3 hx3 hf3 H3 HM2
  have b4 := below1 w3 (.cells #[.int .i64 (x : Nat)] 3)
  have HB4 := hid (BMake_any (HM3.out.go b4) ⟨5, [((x : Nat) : Int)], 0, 0⟩ (.slice (some ⟨w3.heap.size, 0, none⟩) 1 1) false none 0 0 (QArg.new HBs3.out (fun k h => h.elim) [((x : Nat) : Int)] #[.int .i64 (x : Nat)] rfl 1 rfl (by simp)) (zeroRaw _) (mk_one p3 x HX3.out) (by omega) ⟨by simp, by show sz Big.W 0 ≤ 8; rw [sz_zero]; omega⟩)
  rw [show plSort p3 ⟨5, [((x : Nat) : Int)], 0, 0⟩ = 1 from rfl] at HB4
  have hsz4 := size_alloc w3 (.cells #[.int .i64 (x : Nat)] 3)
  clear b4
  go_wp2_with fail
  refine HB4.out.mono ?_
  rintro e w4 ⟨n, p4, rfl, hm4, he4, hx4, ht4, hl4, hf4⟩
  have HM4 := hid hm4; have HE4 := hid he4; have HX4 := hid hx4; have HT4 := hid (ht4 _ rfl)
  have hz4 : w3.heap.size ≤ w4.heap.size := by have := hf4.size; omega
  have HBs4 : Hid (w.heap.size ≤ w4.heap.size) := hid (by have := HBs3.out; omega)
  clear hm4 he4 hx4 ht4 hf4 HB4 hsz4
  have b5 := below1 w4 (.cells #[.int .i64 (x : Nat), .int .i64 (x : Nat), .int .i64 (x : Nat)] 3)
  have HB5 := hid (BMake_any (HM4.out.go b5) ⟨6, [((x : Nat) : Int), ((x : Nat) : Int), ((x : Nat) : Int)], 0, 0⟩ (.slice (some ⟨w4.heap.size, 0, none⟩) 3 3) false none 0 0 (QArg.new HBs4.out (fun k h => h.elim) [((x : Nat) : Int), ((x : Nat) : Int), ((x : Nat) : Int)] #[.int .i64 (x : Nat), .int .i64 (x : Nat), .int .i64 (x : Nat)] rfl 3 rfl (by simp)) (zeroRaw _) (mk_three p4 x (HX3.out.ext HE4.out)) (by omega) ⟨by simp, by show sz Big.W 0 ≤ 8; rw [sz_zero]; omega⟩)
  rw [show plSort p4 ⟨6, [((x : Nat) : Int), ((x : Nat) : Int), ((x : Nat) : Int)], 0, 0⟩ = 1 from rfl] at HB5
  have hsz5 := size_alloc w4 (.cells #[.int .i64 (x : Nat), .int .i64 (x : Nat), .int .i64 (x : Nat)] 3)
  clear b5
  go_wp2_with fail
  refine HB5.out.mono ?_
  rintro e w5 ⟨a, p5, rfl, hm5, he5, hx5, ht5, hl5, hf5⟩
  have HM5 := hid hm5; have HE5 := hid he5; have HX5 := hid hx5; have HT5 := hid (ht5 _ rfl)
  have hz5 : w4.heap.size ≤ w5.heap.size := by have := hf5.size; omega
  have HBs5 : Hid (w.heap.size ≤ w5.heap.size) := hid (by have := HBs4.out; omega)
  clear hm5 he5 hx5 ht5 hf5 HB5 hsz5
  have b6 := below1 w5 (.cells #[.int .i64 (x : Nat), .int .i64 (n : Nat)] 3)
  have HB6 := hid (BMake_any (HM5.out.go b6) ⟨7, [((x : Nat) : Int), ((n : Nat) : Int)], 0, 0⟩ (.slice (some ⟨w5.heap.size, 0, none⟩) 2 2) false none 0 0 (QArg.new HBs5.out (fun k h => h.elim) [((x : Nat) : Int), ((n : Nat) : Int)] #[.int .i64 (x : Nat), .int .i64 (n : Nat)] rfl 2 rfl (by simp)) (zeroRaw _) (mk_two _ 7 x n 1 (.inl ⟨rfl, by omega⟩) ((HX3.out.ext HE4.out).ext HE5.out) (HX4.out.ext HE5.out)) (by omega) ⟨by simp, by show sz Big.W 0 ≤ 8; rw [sz_zero]; omega⟩)
  rw [show plSort p5 ⟨7, [((x : Nat) : Int), ((n : Nat) : Int)], 0, 0⟩ = 1 from rfl] at HB6
  have hsz6 := size_alloc w5 (.cells #[.int .i64 (x : Nat), .int .i64 (n : Nat)] 3)
  clear b6
  go_wp2_with fail
  refine HB6.out.mono ?_
  rintro e w6 ⟨o, p6, rfl, hm6, he6, hx6, ht6, hl6, hf6⟩
  have HM6 := hid hm6; have HE6 := hid he6; have HX6 := hid hx6; have HT6 := hid (ht6 _ rfl)
  have hz6 : w5.heap.size ≤ w6.heap.size := by have := hf6.size; omega
  have HBs6 : Hid (w.heap.size ≤ w6.heap.size) := hid (by have := HBs5.out; omega)
  clear hm6 he6 hx6 ht6 hf6 HB6 hsz6
  obtain ⟨vs, vr, vy, hP⟩ := HM6.out
  have hsy6 : p6.syms = mkSyms := HE6.out.1.trans (HE5.out.1.trans (HE4.out.1.trans HE3.out.1))
  have Hsy := hid hsy6
  have HMk := hid hP.mkp
  have HX6x := hid (((HX3.out.ext HE4.out).ext HE5.out).ext HE6.out)
  have HX6n := hid ((HX4.out.ext HE5.out).ext HE6.out)
  have HX6a := hid (HX5.out.ext HE6.out)
  have HTn := hid (get_ext (get_ext HT4.out HE5.out) HE6.out)
  have HTa := hid (get_ext HT5.out HE6.out)
  have HTo := hid HT6.out
  have HSyw := hid hP.syin; have HTmw := hid hP.tmin
  have hbl := lt_of_block hP.cell
  have NB6 := hid hP.cell
  have HW6 := hid hP.tp.2.2.2.1
  obtain ⟨pr, cr, rfl⟩ := hP.rows.shape
  clear hsy6 hP HM3 HM4 HM5 HM6 HT4 HT5 HT6 HX3 HX4 HX5
  have b7 := below1 w6 (.cells #[.slice pb ds.length cb, .int .i64 0] 54)
  have n7 := heap_alloc_new w6 (.cells #[.slice pb ds.length cb, .int .i64 0] 54)
  have z7 := size_alloc w6 (.cells #[.slice pb ds.length cb, .int .i64 0] 54)
  generalize hW7 : w6.alloc (.cells #[.slice pb ds.length cb, .int .i64 0] 54) = W7 at *
  have HT7 : TpIn w W7 w6.heap.size (.slice pb ds.length cb) ds := ⟨Hd.out, Hsd.out, HBs6.out, bel_go b7 HW6.out, 0, Nat.zero_le _, n7⟩
  have NB7 := hid ((b7.block b hbl).trans NB6.out)
  have HMod := hid (Model_any HT7 vs p6.syms (fun w' hA => HSyw.out.below (b7.trans (hA.below (B := w6.heap.size) b7.size (fun i hi => by
    have hi : i = w6.heap.size := hi
    omega)))) (by rw [Hsy.out]; decide) (by rw [Hsy.out]; decide))
  have B7 := hid b7
  have q := four_cells NB7.out
  obtain ⟨y0, y1, y2, y3⟩ := q
  have hsl : ∃ p n c, vs = .slice p n c := by
    obtain ⟨p, c, e, -⟩ := HSyw.out
    exact ⟨_, _, _, e⟩
  clear n7 HT7 b7 HE3 HE4 HE5 HE6
  go_wp2_with fail
  refine HMod.out.mono ?_
  rintro e w8 ⟨vm, ts, rfl, hown, htl, hts, -, hA8⟩
  obtain ⟨pm, cm, rfl⟩ := hown.shape
  have b68 : Below w6.heap.size w6 w8 := B7.out.trans (hA8.below (B := w6.heap.size) B7.out.size (fun i hi => by
    have hi : i = w6.heap.size := hi
    omega))
  have hz8 := hA8.size
  have b9 := below1 w8 (.cells #[.slice pm ts.length cm] 28)
  have n9 := heap_alloc_new w8 (.cells #[.slice pm ts.length cm] 28)
  have z9 := size_alloc w8 (.cells #[.slice pm ts.length cm] 28)
  generalize hW9 : w8.alloc (.cells #[.slice pm ts.length cm] 28) = w9 at *
  have b69 := bel_go b9 b68
  have HSy := hid (HSyw.out.below b69); have HTm := hid (HTmw.out.below b69); have HMt := hid ((OwnTabs.tabs hown hts).below b9)
  have HB9 := hid (bel_go b69 HW6.out)
  have NM := hid n9; have NB := hid ((b69.block b hbl).trans NB6.out)
  have hg9 : w8.heap.size < w9.heap.size := by omega
  have hb9 : b < w9.heap.size := by have := b69.size; omega
  have Hts := hid hts
  have hlt9 : p6.syms.length ≤ ts.length := by omega
  have hst := steps_of_check (mk_check HMk.out Hsy.out)
  have HE := hid (fun w' (hb : Below w9.heap.size w9 w') => mk_eval HMk.out Hsy.out Hts.out hlt9 _ _ _ w' (tab_later Htab.out (bel_go hb HB9.out)) (HSy.out.below hb) (HTm.out.below hb) (HMt.out.below hb))
  have hlen := eval_len p6.syms ts p6.terms
  have Hσ := hid (sorts_good HMk.out.good)
  obtain ⟨hxk, -⟩ := HX6x.out
  obtain ⟨hnk, hnt⟩ := get_at HTn.out
  obtain ⟨hak, hat⟩ := get_at HTa.out
  obtain ⟨hok, hot⟩ := get_at HTo.out
  have hvn := not_at ts hst n x hnk hnt
  have hva := and_at ts hst a x hak hat
  have hvo := or_at ts hst o x n hok hot hvn
  have hsx : plSortAt p6 (x : Nat) = 1 := HX6x.out.2
  have hsn : plSortAt p6 (n : Nat) = 1 := HX6n.out.2
  have hsa : plSortAt p6 (a : Nat) = 1 := HX6a.out.2
  have hso : plSortAt p6 (o : Nat) = 1 := HX6.out.2
  have hxl : x < (vlEval p6.syms ts p6.terms []).length := by rw [hlen]; exact hxk
  have hnl : n < (vlEval p6.syms ts p6.terms []).length := by rw [hlen]; exact hnk
  have hal : a < (vlEval p6.syms ts p6.terms []).length := by rw [hlen]; exact hak
  have hol : o < (vlEval p6.syms ts p6.terms []).length := by rw [hlen]; exact hok
  rw [vlAt_get _ n hnl, vlAt_get _ x hxl] at hvn
  rw [vlAt_get _ a hal, vlAt_get _ x hxl] at hva
  rw [vlAt_get _ o hol] at hvo
  have Hlen := hid hlen
  clear b9 n9 b68 b69 hown hts hA8 HMod hlt9 HSyw HTmw hst z7 z9
  obtain ⟨bx, hbx⟩ : ∃ bx : Bool, bx = ((vlEval p6.syms ts p6.terms [])[x]'hxl != 0) := ⟨_, rfl⟩
  have Hbx := hid hbx.symm
  rw [← hbx] at hvn hva
  have Hva := hid hva; have Hvo := hid hvo; have Hvn2 := hid hvn
  clear hbx hvn hva hvo htl hlen
  generalize vlEval p6.syms ts p6.terms [] = L at *
  clear y0 y1 y2 y3
  have B9 := hid (Below.refl w9.heap.size w9)
  have Hsx := hid hsx; have Hsn := hid hsn; have Hsa := hid hsa; have Hso := hid hso
  clear hsx hsn hsa hso hnt hat hot
  have Hxk := hid hxk; have Hnk := hid hnk; have Hak := hid hak; have Hok := hid hok
  obtain ⟨psl, nsl, csl, rfl⟩ := hsl
  have H10 := hid (fun w' (hb : Below w9.heap.size w9 w') => Holds_in (.slice psl nsl csl) (.slice pr p6.terms.length cr) (.slice pm ts.length cm) ⟨_, _, _, rfl⟩ p6.syms p6.terms _ L x w' (HSy.out.below hb) (HTm.out.below hb) Hσ.out Hxk.out Hlen.out (fun w2 hb2 => HE.out w2 (bel_go hb2 hb)))
  rw [Hsx.out, if_pos rfl] at H10
  rw [show ((1 : Int) == 1) = true from rfl, Bool.true_and, Hbx.out] at H10
  have HS10 : Hid (∀ w', Below w9.heap.size w9 w' → w'.cell? ⟨b, 0, none⟩ = some (.slice psl nsl csl) ∧ w'.cell? ⟨b, 1, none⟩ = some (.slice pr p6.terms.length cr) ∧ w'.cell? ⟨w8.heap.size, 0, none⟩ = some (.slice pm ts.length cm) ∧ Below w9.heap.size w9 w') := hid fun w' hb => by
    have h9 := bel_go hb B9.out
    have q := four_cells ((h9.block b hb9).trans NB.out)
    exact ⟨q.1, q.2.1, (one_cell ((h9.block w8.heap.size hg9).trans NM.out)).1, hb⟩
  go_upto_region 11 with fail
  go_region_held3 (fun w' => w'.cell? ⟨b, 0, none⟩ = some (.slice psl nsl csl) ∧ w'.cell? ⟨b, 1, none⟩ = some (.slice pr p6.terms.length cr) ∧ w'.cell? ⟨w8.heap.size, 0, none⟩ = some (.slice pm ts.length cm) ∧ Below w9.heap.size w9 w')
    (first | exact HS10.out _ (Below.drew (Below.refl _ _)) | (refine HS10.out _ (bel_go hb ?_); go_split_ands; assumption))
    (first | (go_at_call 19; (with_reducible refine (H10.out _ (bel_go (by go_split_ands; assumption) B9.out)).mono ?_); rintro e w10 ⟨rfl, hb⟩))
  rename_i hHeld10
  go_split_ands
  have B10 := hid (bel_go (show Below w9.heap.size w9 w10 by assumption) B9.out)
  clear hb H10 HS10
  have H11 := hid (fun w' (hb : Below w9.heap.size w9 w') => Holds_in (.slice psl nsl csl) (.slice pr p6.terms.length cr) (.slice pm ts.length cm) ⟨_, _, _, rfl⟩ p6.syms p6.terms _ L n w' (HSy.out.below hb) (HTm.out.below hb) Hσ.out Hnk.out Hlen.out (fun w2 hb2 => HE.out w2 (bel_go hb2 hb)))
  rw [Hsn.out, if_pos rfl] at H11
  rw [show ((1 : Int) == 1) = true from rfl, Bool.true_and, Hvn2.out] at H11
  have HS11 : Hid (∀ w', Below w10.heap.size w10 w' → w'.cell? ⟨b, 0, none⟩ = some (.slice psl nsl csl) ∧ w'.cell? ⟨b, 1, none⟩ = some (.slice pr p6.terms.length cr) ∧ w'.cell? ⟨w8.heap.size, 0, none⟩ = some (.slice pm ts.length cm) ∧ Below w10.heap.size w10 w') := hid fun w' hb => by
    have h9 := bel_go hb B10.out
    have q := four_cells ((h9.block b hb9).trans NB.out)
    exact ⟨q.1, q.2.1, (one_cell ((h9.block w8.heap.size hg9).trans NM.out)).1, hb⟩
  go_upto_region 12 with fail
  go_region_held3 (fun w' => w'.cell? ⟨b, 0, none⟩ = some (.slice psl nsl csl) ∧ w'.cell? ⟨b, 1, none⟩ = some (.slice pr p6.terms.length cr) ∧ w'.cell? ⟨w8.heap.size, 0, none⟩ = some (.slice pm ts.length cm) ∧ Below w10.heap.size w10 w')
    (first | exact HS11.out _ (Below.drew (Below.refl _ _)) | (refine HS11.out _ (bel_go hb ?_); go_split_ands; assumption))
    (first | (go_at_call 19; (with_reducible refine (H11.out _ (bel_go (by go_split_ands; assumption) B10.out)).mono ?_); rintro e w11 ⟨rfl, hb⟩))
  rename_i hHeld11
  go_split_ands
  have B11 := hid (bel_go (show Below w10.heap.size w10 w11 by assumption) B10.out)
  clear hb H11 HS11
  have H12 := hid (fun w' (hb : Below w9.heap.size w9 w') => Holds_in (.slice psl nsl csl) (.slice pr p6.terms.length cr) (.slice pm ts.length cm) ⟨_, _, _, rfl⟩ p6.syms p6.terms _ L a w' (HSy.out.below hb) (HTm.out.below hb) Hσ.out Hak.out Hlen.out (fun w2 hb2 => HE.out w2 (bel_go hb2 hb)))
  rw [Hsa.out, if_pos rfl] at H12
  rw [show ((1 : Int) == 1) = true from rfl, Bool.true_and, Hva.out] at H12
  have HS12 : Hid (∀ w', Below w11.heap.size w11 w' → w'.cell? ⟨b, 0, none⟩ = some (.slice psl nsl csl) ∧ w'.cell? ⟨b, 1, none⟩ = some (.slice pr p6.terms.length cr) ∧ w'.cell? ⟨w8.heap.size, 0, none⟩ = some (.slice pm ts.length cm) ∧ Below w11.heap.size w11 w') := hid fun w' hb => by
    have h9 := bel_go hb B11.out
    have q := four_cells ((h9.block b hb9).trans NB.out)
    exact ⟨q.1, q.2.1, (one_cell ((h9.block w8.heap.size hg9).trans NM.out)).1, hb⟩
  go_upto_region 13 with fail
  go_region_held3 (fun w' => w'.cell? ⟨b, 0, none⟩ = some (.slice psl nsl csl) ∧ w'.cell? ⟨b, 1, none⟩ = some (.slice pr p6.terms.length cr) ∧ w'.cell? ⟨w8.heap.size, 0, none⟩ = some (.slice pm ts.length cm) ∧ Below w11.heap.size w11 w')
    (first | exact HS12.out _ (Below.drew (Below.refl _ _)) | (refine HS12.out _ (bel_go hb ?_); go_split_ands; assumption))
    (first | (go_at_call 19; (with_reducible refine (H12.out _ (bel_go (by go_split_ands; assumption) B11.out)).mono ?_); rintro e w12 ⟨rfl, hb⟩))
  rename_i hHeld12
  go_split_ands
  have B12 := hid (bel_go (show Below w11.heap.size w11 w12 by assumption) B11.out)
  clear hb H12 HS12
  have H13 := hid (fun w' (hb : Below w9.heap.size w9 w') => Holds_in (.slice psl nsl csl) (.slice pr p6.terms.length cr) (.slice pm ts.length cm) ⟨_, _, _, rfl⟩ p6.syms p6.terms _ L o w' (HSy.out.below hb) (HTm.out.below hb) Hσ.out Hok.out Hlen.out (fun w2 hb2 => HE.out w2 (bel_go hb2 hb)))
  rw [Hso.out, if_pos rfl] at H13
  rw [show ((1 : Int) == 1) = true from rfl, Bool.true_and, Hvo.out] at H13
  have HS13 : Hid (∀ w', Below w12.heap.size w12 w' → w'.cell? ⟨b, 0, none⟩ = some (.slice psl nsl csl) ∧ w'.cell? ⟨b, 1, none⟩ = some (.slice pr p6.terms.length cr) ∧ w'.cell? ⟨w8.heap.size, 0, none⟩ = some (.slice pm ts.length cm) ∧ Below w12.heap.size w12 w') := hid fun w' hb => by
    have h9 := bel_go hb B12.out
    have q := four_cells ((h9.block b hb9).trans NB.out)
    exact ⟨q.1, q.2.1, (one_cell ((h9.block w8.heap.size hg9).trans NM.out)).1, hb⟩
  go_upto_region 14 with fail
  go_region_held3 (fun w' => w'.cell? ⟨b, 0, none⟩ = some (.slice psl nsl csl) ∧ w'.cell? ⟨b, 1, none⟩ = some (.slice pr p6.terms.length cr) ∧ w'.cell? ⟨w8.heap.size, 0, none⟩ = some (.slice pm ts.length cm) ∧ Below w12.heap.size w12 w')
    (first | exact HS13.out _ (Below.drew (Below.refl _ _)) | (refine HS13.out _ (bel_go hb ?_); go_split_ands; assumption))
    (first | (go_at_call 19; (with_reducible refine (H13.out _ (bel_go (by go_split_ands; assumption) B12.out)).mono ?_); rintro e w13 ⟨rfl, hb⟩))
  rename_i hHeld13
  go_split_ands
  have B13 := hid (bel_go (show Below w12.heap.size w12 w13 by assumption) B12.out)
  clear hb H13 HS13
  have HF := hid (bel_go B13.out HB9.out)
  cases bx
  · go_wp2
    go_ret
    exact ⟨rfl, HF.out⟩
  · go_wp2
    go_ret
    exact ⟨rfl, HF.out⟩
end Go.Proofs.YtckkpolikdnilaaGreatDoor
/- A tape that comes in as data: its bytes, each below 256. -/
namespace Go.Proofs.YtckkpolikdnilaaGreatDoor
open Go.ChangeShapes Go.WideShapes Go.ChangeAt Go.RowKit Go.Deep Go.Joins Big

section
variable {H : Type} {enc : TypeId × Value → H} {w : World} {base : Nat} {spare : Nat → Bool} {held : Bool}
set_option maxRecDepth 100000 in
theorem open_tape {r : Reach} {b0 : Nat} {v : Value} {d : DataW H} {p : List MemPlace} (hv : Value.okWide Tryz.prog w r b0 50 v) (h : DataW.Trod enc Tryz.prog w base spare held 50 v d p) :
    ∃ l, At w .u8 v l ∧ ∀ y ∈ l, y < 256 := by
  obtain ⟨a, len, cap, rfl⟩ := okWide_slice Tryz.underlying50 hv
  obtain ⟨fuel, hf⟩ := h
  rcases open_ints Tryz.underlying50 Tryz.underlying5 cellsU8 hf with ⟨he, -⟩ | ⟨a', len', cap', zs, he, hb, hl, hm, hz, -, hc, hwf⟩
  · have he : Value.slice a len cap = .slice none 0 0 := by simpa [Value.cells] using he
    rw [he]
    exact ⟨[], At.nil w .u8, fun y h => by cases h⟩
  · have he : Value.slice a len cap = .slice (some a') len' cap' := by simpa [Value.cells] using he
    rw [he]
    have hlz : len' ≤ zs.length := by rw [hz]; split <;> omega
    refine ⟨(zs.take len').map Int.toNat, ?_, fun y hy => by
      obtain ⟨z, hz', rfl⟩ := List.mem_map.1 hy
      have := wf_u8 (hwf z (List.mem_of_mem_take hz'))
      omega⟩
    have e : ((zs.take len').map Int.toNat).length = len' := by simp [Nat.min_eq_left hlz]
    refine ⟨some a', cap', by rw [e], by rw [e]; exact hl, hm, nofun, fun h0 => ?_⟩
    rw [e] at h0
    have hs := hc 0 (by omega)
    obtain ⟨b, off, spot⟩ := a'
    cases spot with
    | some x =>
      exfalso
      revert hs
      unfold World.cell? Addr.add
      split <;> simp
    | none =>
      refine ⟨b, off, rfl, World.block_lt_of_cell? w _ hs, fun i hi => ?_⟩
      rw [e] at hi
      have hci := hc i (by omega)
      have hw := wf_u8 (hwf _ (List.getElem_mem (n := i) (l := zs) (by omega)))
      rw [add_plain] at hci
      rw [hci]
      have hg : zs.getD i 0 = zs[i]'(by omega) := by simp [List.getD, show i < zs.length by omega]
      rw [hg]
      simp only [List.getElem_map, List.getElem_take]
      congr 2
      omega
end
end Go.Proofs.YtckkpolikdnilaaGreatDoor
/- The package-level tables that the rows list, as start-up lays them; a world that holds them. -/
namespace Go.Proofs.YtckkpolikdnilaaGreatDoor
open Go.ChangeShapes Go.WideShapes Go.ChangeAt Go.RowKit

theorem own : ownKnob Tryz.prog.godebug = none := by kernel_rfl
def tabPow : Array Value := #[.int .u64 1, .int .u64 10, .int .u64 100, .int .u64 1000, .int .u64 10000, .int .u64 100000, .int .u64 1000000, .int .u64 10000000, .int .u64 100000000, .int .u64 1000000000, .int .u64 10000000000, .int .u64 100000000000, .int .u64 1000000000000, .int .u64 10000000000000, .int .u64 100000000000000, .int .u64 1000000000000000, .int .u64 10000000000000000, .int .u64 100000000000000000, .int .u64 1000000000000000000, .int .u64 10000000000000000000]
def tab32 : Array Value := #[.int .u8 0, .int .u8 1, .int .u8 28, .int .u8 2, .int .u8 29, .int .u8 14, .int .u8 24, .int .u8 3, .int .u8 30, .int .u8 22, .int .u8 20, .int .u8 15, .int .u8 25, .int .u8 17, .int .u8 4, .int .u8 8, .int .u8 31, .int .u8 27, .int .u8 13, .int .u8 23, .int .u8 21, .int .u8 19, .int .u8 16, .int .u8 7, .int .u8 26, .int .u8 12, .int .u8 18, .int .u8 6, .int .u8 11, .int .u8 5, .int .u8 10, .int .u8 9]
def tab64 : Array Value := #[.int .u8 0, .int .u8 1, .int .u8 56, .int .u8 2, .int .u8 57, .int .u8 49, .int .u8 28, .int .u8 3, .int .u8 61, .int .u8 58, .int .u8 42, .int .u8 50, .int .u8 38, .int .u8 29, .int .u8 17, .int .u8 4, .int .u8 62, .int .u8 47, .int .u8 59, .int .u8 36, .int .u8 45, .int .u8 43, .int .u8 51, .int .u8 22, .int .u8 53, .int .u8 39, .int .u8 33, .int .u8 30, .int .u8 24, .int .u8 18, .int .u8 12, .int .u8 5, .int .u8 63, .int .u8 55, .int .u8 48, .int .u8 27, .int .u8 60, .int .u8 41, .int .u8 37, .int .u8 16, .int .u8 46, .int .u8 35, .int .u8 44, .int .u8 21, .int .u8 52, .int .u8 32, .int .u8 23, .int .u8 11, .int .u8 54, .int .u8 26, .int .u8 40, .int .u8 15, .int .u8 34, .int .u8 20, .int .u8 31, .int .u8 10, .int .u8 25, .int .u8 14, .int .u8 19, .int .u8 9, .int .u8 13, .int .u8 8, .int .u8 7, .int .u8 6]
/-- the object that block k holds behind start-up -/
def laidObj (k : Nat) (o : Obj) : Obj :=
  match o with
  | .cells c t frozen => if k = 0 then .cells tabPow t frozen else if k = 1 then .cells tab32 t frozen else if k = 2 then .cells tab64 t frozen else .cells c t frozen
  | o => o
noncomputable def laidWorld (os : Os) : World :=
  { World.holding Tryz.prog os ⟨#[], #[], []⟩ with heap := (((World.holding Tryz.prog os ⟨#[], #[], []⟩).heap.modify 0 (laidObj 0)).modify 1 (laidObj 1)).modify 2 (laidObj 2) }
end Go.Proofs.YtckkpolikdnilaaGreatDoor
