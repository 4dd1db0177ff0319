/- Texts put together: Ref2, Ref2Of, Ref2Ops, Ref2Quo, Ref2Add, Ref2Sub, Ref2Cmp. -/
import Derived.Test.YteiniokddopacaaOrderCardM9
/- elenchusref02: Den, Make. -/
namespace Go.Proofs.Yteiniokddopacaa
open Go.RowKit Big

/-- block g is a variable that holds this whole number, in any form -/
def RawCell (w : World) (g : Nat) (z : Int) : Prop := ∃ d p n c, w.heap[g]? = some (.cells #[.bool d, .slice p n c] 25 (0, 0)) ∧ RawAt w (.agg #[.bool d, .slice p n c]) z
theorem RawCell.below {w w' : World} {g : Nat} {z : Int} (h : RawCell w g z) (hb : Below w.heap.size w w') : RawCell w' g z := by
  obtain ⟨d, p, n, c, h, hi⟩ := h
  exact ⟨d, p, n, c, (hb.block g (Array.getElem?_eq_some_iff.1 h).1).trans h, hi.below hb⟩
theorem RawCell.lt {w : World} {g : Nat} {z : Int} (h : RawCell w g z) : g < w.heap.size := by
  obtain ⟨d, p, n, c, h, -⟩ := h
  exact (Array.getElem?_eq_some_iff.1 h).1

set_option maxRecDepth 100000 in
set_option maxHeartbeats 3200000 in
theorem Make_any (v0 v1 : Value) (p q : Int) (w : World) (h0 : RawAt w v0 p) (h1 : RawAt w v1 q) (hq : q ≠ 0) (sp : sz W p.natAbs ≤ 1000) (sq : sz W q.natAbs ≤ 1000) :
    Calls Try.prog 16 #[v0, v1] w (RRat (Rat.divInt p q) w) := by
  obtain ⟨b, p0, n0, c0, rfl⟩ := h0.parts
  obtain ⟨b', p1, n1, c1, rfl⟩ := h1.parts
  have H0 := hid h0; have H1 := hid h1
  obtain ⟨x, hx⟩ : ∃ x, x = Rat.divInt p q := ⟨_, rfl⟩
  rw [← hx]
  have Hx := hid hx
  clear h0 h1 hx
  go_enter Try.func16, Try.ntmps16
  go_upto_region 1 with fail
  generalize hW : World.alloc (World.alloc (World.alloc w _) _) _ = W1a
  have bw : Below w.heap.size w W1a := by rw [← hW]; exact ((below1 _ _).alloc (by simp) _).alloc (by simp; omega) _
  have ra : Rec W1a w.heap.size 25 #[.bool b, .slice p0 n0 c0] := by
    rw [← hW]; exact ((Rec.new ..).below (below1 _ _)).below (below1 _ _)
  have rb : Rec W1a (w.heap.size + 1) 25 #[.bool b', .slice p1 n1 c1] := by
    rw [← hW]
    have := Rec.new (w.alloc (.cells #[.bool b, .slice p0 n0 c0] 25)) #[.bool b', .slice p1 n1 c1] 25
    rw [size_alloc] at this
    exact this.below (below1 _ _)
  have rz : Rec W1a (w.heap.size + 1 + 1) 29 #[.bool false, .slice none 0 0, .slice none 0 0] := by
    rw [← hW]
    have := Rec.new ((w.alloc (.cells #[.bool b, .slice p0 n0 c0] 25)).alloc (.cells #[.bool b', .slice p1 n1 c1] 25)) #[.bool false, .slice none 0 0, .slice none 0 0] 29
    rwa [size_alloc, size_alloc] at this
  have Ca : RawCell W1a w.heap.size p := ⟨_, _, _, _, ra, H0.out.below bw⟩
  have Cb : RawCell W1a (w.heap.size + 1) q := ⟨_, _, _, _, rb, H1.out.below bw⟩
  have xb0 := rb.cell 0; have xb1 := rb.cell 1
  simp only [List.getElem?_toArray, List.getElem?_cons_zero, List.getElem?_cons_succ] at xb0 xb1
  have Hsg := hid (RSign_any _ q W1a (H1.out.below bw))
  have HCa := hid Ca; have HCb := hid Cb; have Hrz := hid rz; have Hbw := hid bw
  clear hW ra rb rz bw Ca Cb H0 H1
  by_cases hneg : q < 0
  · rw [Int.sign_eq_neg_one_of_neg hneg] at Hsg
    have hqp := hid (show (0 : Int) < -q by omega)
    have spn : sz W (-p).natAbs ≤ 1000 := by rw [Int.natAbs_neg]; exact sp
    have sqn : sz W (-q).natAbs ≤ 1000 := by rw [Int.natAbs_neg]; exact sq
    have Hx : Hid (x = Rat.divInt (-p) (-q)) := by unfold Hid; rw [Rat.neg_divInt_neg]; exact Hx.out
    clear hneg hq sp sq
    go_wp2_with fail
    refine Hsg.out.mono ?_
    rintro e W3 ⟨rfl, b3⟩
    have Ca := HCa.out.below b3; have Cb := HCb.out.below b3; have rz := Hrz.out.below b3
    have b3' : Below w.heap.size w W3 := Hbw.out.trans (b3.mono (B' := w.heap.size) Hbw.out.size)
    clear b3 xb0 xb1 HCa HCb Hrz Hbw Hsg
    obtain ⟨d2, u2, n2, c2, e2, i2⟩ := id Ca
    have x2 := two_cells e2
    obtain ⟨x20, x21, f20, f21⟩ := x2
    have Hng := hid (RNeg_any _ p W3 i2)
    have HCb := hid Cb; have Hrz := hid rz; have Hb3 := hid b3'; have Hra := hid (show Rec W3 w.heap.size 25 #[.bool d2, .slice u2 n2 c2] from e2)
    clear Ca Cb rz b3' e2 i2
    go_wp2_with fail
    refine Hng.out.mono ?_
    rintro e W3b ⟨v3, rfl, i3, b3⟩
    have i3p := i3.parts'
    obtain ⟨d3, p3, n3, c3, rfl, i3⟩ := i3p
    have ra := Hra.out.below b3
    have y0 := ra.cell 0; have y1 := ra.cell 1
    simp only [List.getElem?_toArray, List.getElem?_cons_zero, List.getElem?_cons_succ] at y0 y1
    have fr := frozen4 ra
    obtain ⟨g0, g1, -, -⟩ := fr
    have m := put2 ra (by simp [nonInt]) (.bool d3) (.slice p3 n3 c3) (by simp [nonInt])
    have Ca : RawCell ((W3b.setCell ⟨w.heap.size, 0, none⟩ (.bool d3)).setCell ⟨w.heap.size, 1, none⟩ (.slice p3 n3 c3)) w.heap.size (-p) := ⟨_, _, _, _, m.1, (m.2.int _ _ i3).raw (by omega)⟩
    have Cb : RawCell ((W3b.setCell ⟨w.heap.size, 0, none⟩ (.bool d3)).setCell ⟨w.heap.size, 1, none⟩ (.slice p3 n3 c3)) (w.heap.size + 1) q := by
      obtain ⟨d, p', n', c', h, hi⟩ := HCb.out.below b3
      exact ⟨d, p', n', c', m.2.rcs _ _ _ (by omega) h, m.2.raw _ _ hi⟩
    have rz := m.2.rcs _ _ _ (show w.heap.size + 1 + 1 ≠ w.heap.size by omega) (Hrz.out.below b3)
    have b4 := m.2.bel w.heap.size w (Nat.le_refl _) (Hb3.out.trans (b3.mono (B' := w.heap.size) Hb3.out.size))
    clear m ra i3 b3 HCb Hrz Hb3 Hra Hng x20 x21 f20 f21
    go_upto_region 3 with fail
    generalize ((W3b.setCell ⟨w.heap.size, 0, none⟩ (.bool d3)).setCell ⟨w.heap.size, 1, none⟩ (.slice p3 n3 c3)) = W5a at *
    clear y0 y1 g0 g1
    obtain ⟨d2', u2', n2', c2', e2, i2⟩ := id Cb
    have x2 := two_cells e2
    obtain ⟨x20, x21, f20, f21⟩ := x2
    have Hng := hid (RNeg_any _ q W5a i2)
    have HCa := hid Ca; have Hrz := hid rz; have Hb3 := hid b4; have Hra := hid (show Rec W5a (w.heap.size + 1) 25 #[.bool d2', .slice u2' n2' c2'] from e2)
    clear Ca Cb rz b4 e2 i2
    go_wp2_with fail
    refine Hng.out.mono ?_
    rintro e W5b ⟨v3, rfl, i3, b3⟩
    have i3p := i3.parts'
    obtain ⟨d3', p3', n3', c3', rfl, i3⟩ := i3p
    have ra := Hra.out.below b3
    have y0 := ra.cell 0; have y1 := ra.cell 1
    simp only [List.getElem?_toArray, List.getElem?_cons_zero, List.getElem?_cons_succ] at y0 y1
    have fr := frozen4 ra
    obtain ⟨g0, g1, -, -⟩ := fr
    have m := put2 ra (by simp [nonInt]) (.bool d3') (.slice p3' n3' c3') (by simp [nonInt])
    have Cb : RawCell ((W5b.setCell ⟨w.heap.size + 1, 0, none⟩ (.bool d3')).setCell ⟨w.heap.size + 1, 1, none⟩ (.slice p3' n3' c3')) (w.heap.size + 1) (-q) := ⟨_, _, _, _, m.1, (m.2.int _ _ i3).raw (by omega)⟩
    have Ca : RawCell ((W5b.setCell ⟨w.heap.size + 1, 0, none⟩ (.bool d3')).setCell ⟨w.heap.size + 1, 1, none⟩ (.slice p3' n3' c3')) w.heap.size (-p) := by
      obtain ⟨d, p', n', c', h, hi⟩ := HCa.out.below b3
      exact ⟨d, p', n', c', m.2.rcs _ _ _ (by omega) h, m.2.raw _ _ hi⟩
    have rz := m.2.rcs _ _ _ (show w.heap.size + 1 + 1 ≠ w.heap.size + 1 by omega) (Hrz.out.below b3)
    have b4 := m.2.bel w.heap.size w (by omega) (Hb3.out.trans (b3.mono (B' := w.heap.size) Hb3.out.size))
    clear m ra i3 b3 HCa Hrz Hb3 Hra Hng x20 x21 f20 f21
    go_upto_region 4 with fail
    generalize ((W5b.setCell ⟨w.heap.size + 1, 0, none⟩ (.bool d3')).setCell ⟨w.heap.size + 1, 1, none⟩ (.slice p3' n3' c3')) = W4 at *
    clear y0 y1 g0 g1
    have hqp := hqp.out
    generalize -p = p' at *
    generalize -q = q' at *
    have sp := spn; have sq := sqn
    clear spn sqn
    have hq0 : q' ≠ 0 := by omega
    have hnum := low_num (p := p') hq0
    have hden := low_den (p := p') hq0
    have cg := lowBy_ne (p := p') hq0
    have hlb : ((Nat.gcd p'.natAbs q'.natAbs : Nat) : Int) = lowBy p' q' := by unfold lowBy; rw [if_neg (by omega)]
    have szc : sz W (lowBy p' q').natAbs ≤ 1000 := by
      rw [← hlb]
      exact Nat.le_trans (sz_mono W2 (by rw [Int.natAbs_natCast]; exact Nat.gcd_le_right _ (by omega))) sq
    obtain ⟨d2, u2, n2, c2, e2, i2⟩ := id Ca
    obtain ⟨d3, u3, n3, c3, e3, i3⟩ := id Cb
    have x2 := two_cells e2; have x3 := two_cells e3
    obtain ⟨x20, x21, -, -⟩ := x2
    obtain ⟨x30, x31, -, -⟩ := x3
    have hg := RGcd_any _ _ p' q' W4 i2 i3 (by omega) (by omega)
    rw [hlb] at hg
    generalize lowBy p' q' = c at *
    have Hg := hid hg; have HCa := hid Ca; have HCb := hid Cb; have Hrz := hid rz; have Hb4 := hid b4; have Hnum := hid hnum; have Hden := hid hden; have Hcg := hid cg
    clear hg Ca Cb rz b4 hnum hden cg hlb hq0 hqp i2 i3 e2 e3
    go_wp2_with fail
    refine Hg.out.mono ?_
    rintro e W5 ⟨v5, rfl, i5, b5⟩
    have i5p := i5.parts'
    obtain ⟨d5, p5, n5, c5, rfl, i5⟩ := i5p
    go_upto_region 5 with fail
    generalize hW : World.alloc W5 _ = W6
    have X6 : Below W5.heap.size W5 W6 ∧ IntCell W6 W5.heap.size c := by
      rw [← hW]; exact ⟨below1 _ _, _, _, _, _, heap_alloc_new W5 _, i5.below (below1 _ _)⟩
    have b46 : Below W4.heap.size W4 W6 := b5.trans (X6.1.mono (B' := W4.heap.size) b5.size)
    have Ca := HCa.out.below b46; have Cb := HCb.out.below b46; have rz := Hrz.out.below b46
    have b6 : Below w.heap.size w W6 := Hb4.out.trans (b46.mono (B' := w.heap.size) Hb4.out.size)
    have Cg := X6.2
    obtain ⟨gg, hgg⟩ : ∃ g, g = W5.heap.size := ⟨_, rfl⟩
    rw [← hgg] at Cg ⊢
    clear hW X6 b46 b5 i5 hgg x20 x21 x30 x31 Hg HCa HCb Hrz Hb4
    obtain ⟨d2, u2, n2, c2, e2, i2⟩ := id Ca
    obtain ⟨d5, u5, n5, c5, e5, i5⟩ := id Cg
    have x2 := two_cells e2; have x5 := two_cells e5
    obtain ⟨x20, x21, -, -⟩ := x2
    obtain ⟨x50, x51, -, -⟩ := x5
    have hdv := RDiv_any _ _ p' c W6 i2 (i5.raw (by omega)) Hcg.out (by omega) (by omega)
    have Hdv := hid hdv; have HCb := hid Cb; have HCg := hid Cg; have Hrz := hid rz; have Hb6 := hid b6
    clear hdv Ca Cb Cg rz b6 i2 i5 e2 e5
    go_wp2_with fail
    refine Hdv.out.mono ?_
    rintro e W7 ⟨vq, vr, rfl, hqq, hrr, b7⟩
    have hqq := hqq.parts'
    obtain ⟨dq, pq, nq, cq', rfl, hqq⟩ := hqq
    have hrr := hrr.parts'
    obtain ⟨dr, pr, nr, cr, rfl, -⟩ := hrr
    go_upto_region 6 with fail
    generalize hW : World.alloc (World.alloc W7 _) _ = W8
    have X8 : Below W7.heap.size W7 W8 ∧ Rec W8 W7.heap.size 25 #[.bool dq, .slice pq nq cq'] := by
      rw [← hW]; exact ⟨((Below.refl _ _).alloc (Nat.le_refl _) _).alloc (by simp) _, (Rec.new ..).below (below1 _ _)⟩
    have b68 : Below W6.heap.size W6 W8 := b7.trans (X8.1.mono (B' := W6.heap.size) b7.size)
    have k4 := X8.2
    have i4 := hqq.below X8.1
    have Cb := HCb.out.below b68; have Cg := HCg.out.below b68; have rz := Hrz.out.below b68
    have b8 : Below w.heap.size w W8 := Hb6.out.trans (b68.mono (B' := w.heap.size) Hb6.out.size)
    obtain ⟨g4, hg4⟩ : ∃ g, g = W7.heap.size := ⟨_, rfl⟩
    rw [← hg4] at k4 ⊢
    clear hW X8 b68 b7 hqq hg4 x20 x21 x50 x51 HCb HCg Hrz Hb6 Hdv
    obtain ⟨d3, u3, n3, c3, e3, i3⟩ := id Cb
    obtain ⟨d5', u5', n5', c5', e5, i5⟩ := id Cg
    have x3 := two_cells e3; have x5 := two_cells e5
    obtain ⟨x30, x31, -, -⟩ := x3
    obtain ⟨x50, x51, -, -⟩ := x5
    have hdv := RDiv_any _ _ q' c W8 i3 (i5.raw (by omega)) Hcg.out (by omega) (by omega)
    have Hdv := hid hdv; have Hrz := hid rz; have Hb8 := hid b8; have Hk4 := hid k4; have Hi4 := hid i4
    clear hdv Cb Cg rz b8 k4 i4 i3 i5 e3 e5
    go_wp2_with fail
    refine Hdv.out.mono ?_
    rintro e W9 ⟨vq, vr, rfl, hqq, hrr, b9⟩
    rw [Hden.out] at hqq
    have hqq := hqq.shape
    obtain ⟨pd, nd, cd, rfl, hqq⟩ := hqq
    have hrr := hrr.parts'
    obtain ⟨dr', pr', nr', cr', rfl, -⟩ := hrr
    have hneg : decide (((Rat.divInt p' q').den : Int) < 0) = false := decide_eq_false (by omega)
    rw [hneg] at hqq ⊢
    go_upto_region 7 with fail
    generalize hW : World.alloc (World.alloc W9 _) _ = W10
    have X10 : Below W9.heap.size W9 W10 ∧ Rec W10 W9.heap.size 25 #[.bool false, .slice pd nd cd] := by
      rw [← hW]; exact ⟨((Below.refl _ _).alloc (Nat.le_refl _) _).alloc (by simp) _, (Rec.new ..).below (below1 _ _)⟩
    have b810 : Below W8.heap.size W8 W10 := b9.trans (X10.1.mono (B' := W8.heap.size) b9.size)
    have k7 := X10.2
    have i7 := hqq.below X10.1
    have rz := Hrz.out.below b810; have k4 := Hk4.out.below b810; have i4 := Hi4.out.below b810
    have b10 : Below w.heap.size w W10 := Hb8.out.trans (b810.mono (B' := w.heap.size) Hb8.out.size)
    clear hW X10 b9 hqq b810 Hrz Hk4 Hi4 Hb8 Hdv hneg x30 x31 x50 x51
    have y0 := k4.cell 0; have y1 := k4.cell 1; have z1 := k7.cell 1
    simp only [List.getElem?_toArray, List.getElem?_cons_zero, List.getElem?_cons_succ] at y0 y1 z1
    have x := cells3 rz
    obtain ⟨x0, x1, x2⟩ := x
    have f := frozen4 rz
    obtain ⟨f0, f1, f2, -⟩ := f
    rw [Hnum.out] at i4
    have m2 := put3 rz (by simp [nonInt]) (.bool dq) (.slice pq nq cq') (.slice pd nd cd) (by simp [nonInt])
    have mi := hid (m2.2.int _ _ i4)
    have md := hid (m2.2.int _ _ i7)
    have mb := hid (m2.2.bel w.heap.size w (by omega) b10)
    clear m2 i4 i7 b10 rz k4 k7
    go_wp2
    exact bodyPost_ret (v := .agg #[.bool dq, .slice pq nq cq', .slice pd nd cd]) (by simp [results, Try.results16, go_sem, x0, x1, x2]) rfl ⟨_, rfl, ⟨_, _, _, _, _, _, _, rfl, by rw [Hx.out]; exact mi.out, by rw [Hx.out]; exact md.out⟩, mb.out⟩
  · rw [Int.sign_eq_one_of_pos (show 0 < q by omega)] at Hsg
    have Hqp := hid (show (0 : Int) < q by omega)
    clear hneg hq
    go_wp2_with fail
    refine Hsg.out.mono ?_
    rintro e W4 ⟨rfl, b3⟩
    have Ca := HCa.out.below b3; have Cb := HCb.out.below b3; have rz := Hrz.out.below b3
    have b4 : Below w.heap.size w W4 := Hbw.out.trans (b3.mono (B' := w.heap.size) Hbw.out.size)
    clear b3 xb0 xb1 HCa HCb Hrz Hbw Hsg
    have hqp := Hqp.out
    clear Hqp
    obtain ⟨p', hp'⟩ : ∃ p', p' = p := ⟨_, rfl⟩
    obtain ⟨q', hq'⟩ : ∃ q', q' = q := ⟨_, rfl⟩
    subst hp' hq'
    have hq0 : q' ≠ 0 := by omega
    have hnum := low_num (p := p') hq0
    have hden := low_den (p := p') hq0
    have cg := lowBy_ne (p := p') hq0
    have hlb : ((Nat.gcd p'.natAbs q'.natAbs : Nat) : Int) = lowBy p' q' := by unfold lowBy; rw [if_neg (by omega)]
    have szc : sz W (lowBy p' q').natAbs ≤ 1000 := by
      rw [← hlb]
      exact Nat.le_trans (sz_mono W2 (by rw [Int.natAbs_natCast]; exact Nat.gcd_le_right _ (by omega))) sq
    obtain ⟨d2, u2, n2, c2, e2, i2⟩ := id Ca
    obtain ⟨d3, u3, n3, c3, e3, i3⟩ := id Cb
    have x2 := two_cells e2; have x3 := two_cells e3
    obtain ⟨x20, x21, -, -⟩ := x2
    obtain ⟨x30, x31, -, -⟩ := x3
    have hg := RGcd_any _ _ p' q' W4 i2 i3 (by omega) (by omega)
    rw [hlb] at hg
    generalize lowBy p' q' = c at *
    have Hg := hid hg; have HCa := hid Ca; have HCb := hid Cb; have Hrz := hid rz; have Hb4 := hid b4; have Hnum := hid hnum; have Hden := hid hden; have Hcg := hid cg
    clear hg Ca Cb rz b4 hnum hden cg hlb hq0 hqp i2 i3 e2 e3
    go_wp2_with fail
    refine Hg.out.mono ?_
    rintro e W5 ⟨v5, rfl, i5, b5⟩
    have i5p := i5.parts'
    obtain ⟨d5, p5, n5, c5, rfl, i5⟩ := i5p
    go_upto_region 5 with fail
    generalize hW : World.alloc W5 _ = W6
    have X6 : Below W5.heap.size W5 W6 ∧ IntCell W6 W5.heap.size c := by
      rw [← hW]; exact ⟨below1 _ _, _, _, _, _, heap_alloc_new W5 _, i5.below (below1 _ _)⟩
    have b46 : Below W4.heap.size W4 W6 := b5.trans (X6.1.mono (B' := W4.heap.size) b5.size)
    have Ca := HCa.out.below b46; have Cb := HCb.out.below b46; have rz := Hrz.out.below b46
    have b6 : Below w.heap.size w W6 := Hb4.out.trans (b46.mono (B' := w.heap.size) Hb4.out.size)
    have Cg := X6.2
    obtain ⟨gg, hgg⟩ : ∃ g, g = W5.heap.size := ⟨_, rfl⟩
    rw [← hgg] at Cg ⊢
    clear hW X6 b46 b5 i5 hgg x20 x21 x30 x31 Hg HCa HCb Hrz Hb4
    obtain ⟨d2, u2, n2, c2, e2, i2⟩ := id Ca
    obtain ⟨d5, u5, n5, c5, e5, i5⟩ := id Cg
    have x2 := two_cells e2; have x5 := two_cells e5
    obtain ⟨x20, x21, -, -⟩ := x2
    obtain ⟨x50, x51, -, -⟩ := x5
    have hdv := RDiv_any _ _ p' c W6 i2 (i5.raw (by omega)) Hcg.out (by omega) (by omega)
    have Hdv := hid hdv; have HCb := hid Cb; have HCg := hid Cg; have Hrz := hid rz; have Hb6 := hid b6
    clear hdv Ca Cb Cg rz b6 i2 i5 e2 e5
    go_wp2_with fail
    refine Hdv.out.mono ?_
    rintro e W7 ⟨vq, vr, rfl, hqq, hrr, b7⟩
    have hqq := hqq.parts'
    obtain ⟨dq, pq, nq, cq', rfl, hqq⟩ := hqq
    have hrr := hrr.parts'
    obtain ⟨dr, pr, nr, cr, rfl, -⟩ := hrr
    go_upto_region 6 with fail
    generalize hW : World.alloc (World.alloc W7 _) _ = W8
    have X8 : Below W7.heap.size W7 W8 ∧ Rec W8 W7.heap.size 25 #[.bool dq, .slice pq nq cq'] := by
      rw [← hW]; exact ⟨((Below.refl _ _).alloc (Nat.le_refl _) _).alloc (by simp) _, (Rec.new ..).below (below1 _ _)⟩
    have b68 : Below W6.heap.size W6 W8 := b7.trans (X8.1.mono (B' := W6.heap.size) b7.size)
    have k4 := X8.2
    have i4 := hqq.below X8.1
    have Cb := HCb.out.below b68; have Cg := HCg.out.below b68; have rz := Hrz.out.below b68
    have b8 : Below w.heap.size w W8 := Hb6.out.trans (b68.mono (B' := w.heap.size) Hb6.out.size)
    obtain ⟨g4, hg4⟩ : ∃ g, g = W7.heap.size := ⟨_, rfl⟩
    rw [← hg4] at k4 ⊢
    clear hW X8 b68 b7 hqq hg4 x20 x21 x50 x51 HCb HCg Hrz Hb6 Hdv
    obtain ⟨d3, u3, n3, c3, e3, i3⟩ := id Cb
    obtain ⟨d5', u5', n5', c5', e5, i5⟩ := id Cg
    have x3 := two_cells e3; have x5 := two_cells e5
    obtain ⟨x30, x31, -, -⟩ := x3
    obtain ⟨x50, x51, -, -⟩ := x5
    have hdv := RDiv_any _ _ q' c W8 i3 (i5.raw (by omega)) Hcg.out (by omega) (by omega)
    have Hdv := hid hdv; have Hrz := hid rz; have Hb8 := hid b8; have Hk4 := hid k4; have Hi4 := hid i4
    clear hdv Cb Cg rz b8 k4 i4 i3 i5 e3 e5
    go_wp2_with fail
    refine Hdv.out.mono ?_
    rintro e W9 ⟨vq, vr, rfl, hqq, hrr, b9⟩
    rw [Hden.out] at hqq
    have hqq := hqq.shape
    obtain ⟨pd, nd, cd, rfl, hqq⟩ := hqq
    have hrr := hrr.parts'
    obtain ⟨dr', pr', nr', cr', rfl, -⟩ := hrr
    have hneg : decide (((Rat.divInt p' q').den : Int) < 0) = false := decide_eq_false (by omega)
    rw [hneg] at hqq ⊢
    go_upto_region 7 with fail
    generalize hW : World.alloc (World.alloc W9 _) _ = W10
    have X10 : Below W9.heap.size W9 W10 ∧ Rec W10 W9.heap.size 25 #[.bool false, .slice pd nd cd] := by
      rw [← hW]; exact ⟨((Below.refl _ _).alloc (Nat.le_refl _) _).alloc (by simp) _, (Rec.new ..).below (below1 _ _)⟩
    have b810 : Below W8.heap.size W8 W10 := b9.trans (X10.1.mono (B' := W8.heap.size) b9.size)
    have k7 := X10.2
    have i7 := hqq.below X10.1
    have rz := Hrz.out.below b810; have k4 := Hk4.out.below b810; have i4 := Hi4.out.below b810
    have b10 : Below w.heap.size w W10 := Hb8.out.trans (b810.mono (B' := w.heap.size) Hb8.out.size)
    clear hW X10 b9 hqq b810 Hrz Hk4 Hi4 Hb8 Hdv hneg x30 x31 x50 x51
    have y0 := k4.cell 0; have y1 := k4.cell 1; have z1 := k7.cell 1
    simp only [List.getElem?_toArray, List.getElem?_cons_zero, List.getElem?_cons_succ] at y0 y1 z1
    have x := cells3 rz
    obtain ⟨x0, x1, x2⟩ := x
    have f := frozen4 rz
    obtain ⟨f0, f1, f2, -⟩ := f
    rw [Hnum.out] at i4
    have m2 := put3 rz (by simp [nonInt]) (.bool dq) (.slice pq nq cq') (.slice pd nd cd) (by simp [nonInt])
    have mi := hid (m2.2.int _ _ i4)
    have md := hid (m2.2.int _ _ i7)
    have mb := hid (m2.2.bel w.heap.size w (by omega) b10)
    clear m2 i4 i7 b10 rz k4 k7
    go_wp2
    exact bodyPost_ret (v := .agg #[.bool dq, .slice pq nq cq', .slice pd nd cd]) (by simp [results, Try.results16, go_sem, x0, x1, x2]) rfl ⟨_, rfl, ⟨_, _, _, _, _, _, _, rfl, by rw [Hx.out]; exact mi.out, by rw [Hx.out]; exact md.out⟩, mb.out⟩
end Go.Proofs.Yteiniokddopacaa
/- ratio.Of, elenchusref02.Of, Den. -/
namespace Go.Proofs.Yteiniokddopacaa
open Go.RowKit Big

theorem divInt_one_num (p : Int) : (Rat.divInt p 1).num = p := by
  have := low_num (p := p) (q := 1) (by decide)
  rw [← this]
  have e : lowBy p 1 = 1 := by unfold lowBy; rw [if_neg (by decide)]; simp
  rw [e]; simp
theorem divInt_one_den (p : Int) : (Rat.divInt p 1).den = 1 := by
  have := low_den (p := p) (q := 1) (by decide)
  have e : lowBy p 1 = 1 := by unfold lowBy; rw [if_neg (by decide)]; simp
  rw [e] at this
  omega
set_option maxRecDepth 100000 in
set_option maxHeartbeats 1600000 in
theorem QOf_any (v : Value) (p : Int) (w : World) (h : RawAt w v p) : Calls Try.prog 13 #[v] w (RRat (Rat.divInt p 1) w) := by
  obtain ⟨b, p0, n0, c0, rfl⟩ := h.parts
  have H := hid h
  obtain ⟨x, hx⟩ : ∃ x, x = Rat.divInt p 1 := ⟨_, rfl⟩
  have hn : x.num = p := by rw [hx, divInt_one_num]
  have hd : x.den = 1 := by rw [hx, divInt_one_den]
  rw [← hx]
  have Hn := hid hn; have Hd := hid hd
  clear h hx hn hd
  go_enter Try.func13, Try.ntmps13
  go_wp2_with fail
  generalize hW : World.alloc (World.alloc w _) _ = W0
  have bw : Below w.heap.size w W0 := by rw [← hW]; exact (below1 _ _).alloc (by simp) _
  have rz : Rec W0 (w.heap.size + 1) 29 #[.bool false, .slice none 0 0, .slice none 0 0] := by
    rw [← hW]
    have := Rec.new (w.alloc (.cells #[.bool b, .slice p0 n0 c0] 25)) #[.bool false, .slice none 0 0, .slice none 0 0] 29
    rwa [size_alloc] at this
  clear hW
  have Hrz := hid rz; have Hbw := hid bw
  refine (Norm_any _ p W0 (H.out.below bw)).mono ?_
  clear rz bw
  rintro e w1 ⟨v1, rfl, i1, b1⟩
  have i1p := i1.parts'
  obtain ⟨d1, p1, n1, c1, rfl, i1⟩ := i1p
  have rz := (Hrz.out.below b1).below (below1 w1 (.cells #[.int .u64 1] 46))
  have bw := (Hbw.out.trans (b1.mono (B' := w.heap.size) Hbw.out.size)).trans ((below1 w1 (.cells #[.int .u64 1] 46)).mono (B' := w.heap.size) (Nat.le_trans Hbw.out.size b1.size))
  have i1 := i1.below (below1 w1 (.cells #[.int .u64 1] 46))
  have ha : At (w1.alloc (.cells #[.int .u64 1] 46)) .u64 (.slice (some ⟨w1.heap.size, 0, none⟩) 1 1) [1] := At.oneI _ _ _ 1 _ rfl
  have i2 : IntAt (w1.alloc (.cells #[.int .u64 1] 46)) (.agg #[.bool false, .slice (some ⟨w1.heap.size, 0, none⟩) 1 1]) ((1 : Nat) : Int) := ⟨_, rfl, by
    have e : dig W ((1 : Nat) : Int).natAbs = [1] := by decide +kernel
    rw [e]; exact ha⟩
  have xz := cells3 rz
  obtain ⟨z0, z1, z2⟩ := xz
  have fz := frozen4 rz
  obtain ⟨f0, f1, f2, -⟩ := fz
  have m := put3 rz (by simp [nonInt]) (.bool d1) (.slice p1 n1 c1) (.slice (some ⟨w1.heap.size, 0, none⟩) 1 1) (by simp [nonInt])
  have mi := hid (m.2.int _ _ i1); have md := hid (m.2.int _ _ i2)
  have mb := hid (m.2.bel w.heap.size w (by omega) bw)
  clear m rz bw i1 i2 ha b1 Hrz Hbw
  go_wp2
  exact bodyPost_ret (v := .agg #[.bool d1, .slice p1 n1 c1, .slice (some ⟨w1.heap.size, 0, none⟩) 1 1]) (by simp [results, Try.results13, go_sem, z0, z1, z2]) rfl ⟨_, rfl, ⟨_, _, _, _, _, _, _, rfl, by rw [Hn.out]; exact mi.out, by rw [Hd.out]; exact md.out⟩, mb.out⟩

set_option maxRecDepth 100000 in
set_option maxHeartbeats 1600000 in
theorem ROf2_any (v : Value) (p : Int) (w : World) (h : RawAt w v p) (sp : sz W p.natAbs ≤ 1000) : Calls Try.prog 14 #[v] w (RRat (Rat.divInt p 1) w) := by
  obtain ⟨b, p0, n0, c0, rfl⟩ := h.parts
  have H := hid h
  clear h
  go_enter Try.func14, Try.ntmps14
  go_upto_region 1 with fail
  generalize hW : World.alloc (World.alloc w _) _ = W0
  have bw : Below w.heap.size w W0 := by rw [← hW]; exact (below1 _ _).alloc (by simp) _
  have ra : Rec W0 w.heap.size 25 #[.bool b, .slice p0 n0 c0] := by rw [← hW]; exact (Rec.new ..).below (below1 _ _)
  have rz : Rec W0 (w.heap.size + 1) 29 #[.bool false, .slice none 0 0, .slice none 0 0] := by
    rw [← hW]
    have := Rec.new (w.alloc (.cells #[.bool b, .slice p0 n0 c0] 25)) #[.bool false, .slice none 0 0, .slice none 0 0] 29
    rwa [size_alloc] at this
  have Hrz := hid rz; have Hbw := hid bw; have HA := hid (H.out.below bw)
  have HS : Hid (∀ w', Below W0.heap.size W0 w' → w'.cell? ⟨w.heap.size, 0, none⟩ = some (.bool b) ∧ w'.cell? ⟨w.heap.size, 1, none⟩ = some (.slice p0 n0 c0)) := fun w' hb => ⟨(ra.below hb).cell 0, (ra.below hb).cell 1⟩
  clear hW ra rz bw
  refine wp_region_facts (w0 := W0) 3 1 [3, 4, 5] [undef, undef, undef]
    (fun i => match i with | 0 => eqF (.agg #[.bool b, .slice p0 n0 c0]) | 1 => intF 1 | _ => ratF (Rat.divInt p 1)) [] (by kernel_rfl) (by kernel_rfl) (by kernel_rfl) (by kernel_rfl) (by decide) rfl (by kernel_rfl) rfl (by simp) ?he9 ?_ ?_ ?_
  case he9 => simp only [putAll, Act.put, List.setIfInBounds_toArray, List.set_cons_zero, List.set_cons_succ]
  · intro i hi; simp at hi
  · intro i o hi ho vs wx hvl hb hdep K hK
    have hvs := len3 hvl
    obtain ⟨s3, s4, s5, rfl⟩ := hvs
    clear hvl
    have hk := HS.out wx hb
    go_split_ands
    rcases i with _ | _ | _ | i
    all_goals (simp only [List.getElem?_toArray, List.getElem?_cons_zero, List.getElem?_cons_succ, Option.some.injEq] at ho)
    all_goals try (subst ho)
    all_goals try simp only [putAll, Act.put, List.setIfInBounds_toArray, List.set_cons_zero, List.set_cons_succ]
    · go_simp
      have hK' := hK.out
      simp only [putAll, Act.put, List.setIfInBounds_toArray, List.set_cons_zero, List.set_cons_succ] at hK'
      exact hK' _ _ rfl (Below.refl _ _) (by simp)
    · go_simp
      refine (ROf_any 1 _ (by decide) (by decide)).mono ?_
      rintro e wy ⟨vy, rfl, iy, hby⟩
      have hsh := iy.parts'
      obtain ⟨q5, p5, n5, c5, rfl, iy⟩ := hsh
      go_wp2_with fail
      have hK' := hK.out
      simp only [putAll, Act.put, List.setIfInBounds_toArray, List.set_cons_zero, List.set_cons_succ] at hK'
      exact hK' _ _ ⟨_, _, _, _, rfl, iy⟩ hby (by simp)
    · have e0 : s3 = _ := hdep ⟨0, .data⟩ (by simp) rfl
      subst e0
      have e1 : (intF 1).P s4 wx := hdep ⟨1, .data⟩ (by simp) rfl
      obtain ⟨da1, pa1, na1, ca1, rfl, ia1⟩ := e1
      go_simp
      refine (Make_any _ _ p 1 _ (HA.out.below hb) (ia1.raw (by decide)) (by decide) sp (by decide)).mono ?_
      rintro e wy ⟨vy, rfl, iy, hby⟩
      obtain ⟨e1, e2, e3, e4, e5, e6, e7, rfl, iy0, iy1⟩ := iy
      go_wp2_with fail
      have hK' := hK.out
      simp only [putAll, Act.put, List.setIfInBounds_toArray, List.set_cons_zero, List.set_cons_succ] at hK'
      exact hK' _ _ ⟨_, _, _, _, _, _, _, rfl, iy0, iy1⟩ hby (by simp)
    · omega
  · intro vs wx hvl hb hf hdist
    have hvs := len3 hvl
    obtain ⟨s3, s4, s5, rfl⟩ := hvs
    have f2 : RatTold wx s5 (Rat.divInt p 1) := hf 2 (by decide)
    obtain ⟨e11, e12, e13, e14, e15, e16, e17, rfl, i1, i2⟩ := f2
    have rz := Hrz.out.below hb
    have xz := cells3 rz
    obtain ⟨z0, z1, z2⟩ := xz
    have fz := frozen4 rz
    obtain ⟨fz0, fz1, fz2, -⟩ := fz
    clear hf hdist hvl
    refine wpAny_one (i := 3) (by kernel_rfl) rfl ?_
    intro K hK
    simp only [putAll, Act.put, List.setIfInBounds_toArray, List.set_cons_zero, List.set_cons_succ]
    go_simp
    have hK' := hK.out
    apply hK'
    clear hK hK'
    have m := put3 rz (by simp [nonInt]) (.bool e11) (.slice e12 e13 e14) (.slice e15 e16 e17) (by simp [nonInt])
    have j1 := m.2.int _ _ i1; have j2 := m.2.int _ _ i2
    have jb := m.2.bel w.heap.size w (by omega) (Hbw.out.trans (hb.mono (B' := w.heap.size) Hbw.out.size))
    have xm := cells3 m.1
    clear m rz z0 z1 z2 fz0 fz1 fz2 i1 i2
    generalize (((wx.setCell ⟨w.heap.size + 1, 0, none⟩ (.bool e11)).setCell ⟨w.heap.size + 1, 1, none⟩ (.slice e12 e13 e14)).setCell ⟨w.heap.size + 1, 2, none⟩ (.slice e15 e16 e17)) = wz at *
    obtain ⟨z0, z1, z2⟩ := xm
    refine wpAny_done (by kernel_rfl) ?_ _
    go_wp2
    exact bodyPost_ret (v := .agg #[.bool e11, .slice e12 e13 e14, .slice e15 e16 e17]) (by simp [results, Try.results14, go_sem, z0, z1, z2]) rfl ⟨_, rfl, ⟨_, _, _, _, _, _, _, rfl, j1, j2⟩, jb⟩

end Go.Proofs.Yteiniokddopacaa
/- elenchusref02's calls: Den, Neg, Mul, Div. -/
namespace Go.Proofs.Yteiniokddopacaa
open Go.RowKit Big

theorem len9 {vs : List Value} (h : vs.length = 9) : ∃ a b c d e f g h i, vs = [a, b, c, d, e, f, g, h, i] := by
  match vs, h with
  | [a, b, c, d, e, f, g, h, i], _ => exact ⟨a, b, c, d, e, f, g, h, i, rfl⟩
set_option maxRecDepth 100000 in
set_option maxHeartbeats 3200000 in
theorem Den_any (v : Value) (p q : Int) (w : World) (h : RatRaw w v p q) (sq : sz W q.natAbs ≤ 1000) : Calls Try.prog 48 #[v] w (RInt (dn q) w) := by
  obtain ⟨d, hd⟩ : ∃ d, d = dn q := ⟨_, rfl⟩
  rw [← hd]
  have Hd := hid hd
  clear hd
  obtain ⟨b, p0, n0, c0, p1, n1, c1, rfl, ha0, ha1⟩ := id h
  have H := hid h; have HA := hid ha0; have HD := hid ha1
  clear h ha0 ha1
  go_enter Try.func48, Try.ntmps48
  go_upto_region 1 with fail
  generalize hW : World.alloc (World.alloc w _) _ = W0
  have bw : Below w.heap.size w W0 := by rw [← hW]; exact (below1 _ _).alloc (by simp) _
  have ra : Rec W0 w.heap.size 29 #[.bool b, .slice p0 n0 c0, .slice p1 n1 c1] := by
    rw [← hW]; exact ((Rec.new ..).below (below1 _ _))
  have rz : Rec W0 (w.heap.size + 1) 25 #[.bool false, .slice none 0 0] := by
    rw [← hW]
    have := Rec.new (w.alloc (.cells #[.bool b, .slice p0 n0 c0, .slice p1 n1 c1] 29)) #[.bool false, .slice none 0 0] 25
    rwa [size_alloc] at this
  clear hW
  have x := cells3 ra
  obtain ⟨x0, x1, x2⟩ := x
  have hwh : Calls Try.prog 40 #[.bool false, .slice p1 n1 c1] W0 (RInt q W0) := by
    obtain ⟨neg, s, l, hv, h1, h2, h3, rfl⟩ := HD.out.below bw
    injection hv with hv
    simp at hv
    obtain ⟨rfl, rfl⟩ := hv
    exact Whole_any false _ l W0 h1 h2 (by omega)
  have Hwh := hid hwh; have Hrz := hid rz; have Hbw := hid bw
  clear hwh ra rz bw H HA HD
  go_wp2_with fail
  refine Hwh.out.mono ?_
  rintro e w1 ⟨v1, rfl, i1, b1⟩
  have i1p := i1.parts'
  obtain ⟨d1, q1, m1, k1, rfl, i1⟩ := i1p
  go_upto_region 2 with fail
  generalize hW : World.alloc w1 _ = W1
  have X1 : Below w1.heap.size w1 W1 ∧ IntCell W1 w1.heap.size q := by
    rw [← hW]; exact ⟨below1 _ _, _, _, _, _, heap_alloc_new w1 _, i1.below (below1 _ _)⟩
  have b01 : Below W0.heap.size W0 W1 := b1.trans (X1.1.mono (B' := W0.heap.size) b1.size)
  have rz := Hrz.out.below b01
  have bw : Below w.heap.size w W1 := Hbw.out.trans (b01.mono (B' := w.heap.size) Hbw.out.size)
  have C1 := X1.2
  obtain ⟨g, hg⟩ : ∃ g, g = w1.heap.size := ⟨_, rfl⟩
  rw [← hg] at C1 ⊢
  clear hW X1 hg b01 b1 i1 Hwh Hrz Hbw x0 x1 x2
  obtain ⟨d2, u2, n2, k2, e2, i2⟩ := id C1
  have y := two_cells e2
  obtain ⟨y0, y1, -, -⟩ := y
  have hsg := RSign_any _ q W1 (i2.raw (by omega))
  have Hsg := hid hsg; have Hrz := hid rz; have Hbw := hid bw; have HC := hid C1
  clear hsg rz bw C1 e2 i2
  by_cases hq : q = 0
  · have Hd1 : Hid (d = 1) := by unfold Hid; rw [Hd.out, hq]; rfl
    rw [hq, Int.sign_zero] at Hsg
    clear hq
    go_wp2_with fail
    refine Hsg.out.mono ?_
    rintro e w2 ⟨rfl, b2⟩
    have Hrz := hid (Hrz.out.below b2); have Hbw := hid (Hbw.out.trans (b2.mono (B' := w.heap.size) Hbw.out.size))
    clear b2 y0 y1 HC
    go_wp2_with fail
    refine (ROf_any 1 _ (by decide) (by decide)).mono ?_
    rintro e w3 ⟨v3, rfl, i3, b3⟩
    have i3p := i3.parts'
    obtain ⟨f1, f2, f3, f4, rfl, i3⟩ := i3p
    have rz := Hrz.out.below b3
    have bw := Hbw.out.trans (b3.mono (B' := w.heap.size) Hbw.out.size)
    have xz0 := rz.cell 0; have xz1 := rz.cell 1
    simp only [List.getElem?_toArray, List.getElem?_cons_zero, List.getElem?_cons_succ] at xz0 xz1
    have fz := frozen4 rz
    obtain ⟨g0, g1, -, -⟩ := fz
    have m := put2 rz (by simp [nonInt]) (.bool f1) (.slice f2 f3 f4) (by simp [nonInt])
    have mi := hid (m.2.int _ _ i3)
    have mb := hid (m.2.bel w.heap.size w (by omega) bw)
    clear m rz bw i3 b3
    go_wp2
    exact bodyPost_ret (v := .agg #[.bool f1, .slice f2 f3 f4]) (by simp [results, Try.results48, go_sem, xz0, xz1]) rfl ⟨_, rfl, by rw [Hd1.out]; exact mi.out, mb.out⟩
  · have Hdq : Hid (d = q) := by unfold Hid; rw [Hd.out]; unfold dn; rw [if_neg hq]
    have hs : (q.sign == 0) = false := beq_eq_false_iff_ne.2 (fun e => hq (Int.sign_eq_zero_iff_zero.1 e))
    clear hq
    go_wp2_with fail
    refine Hsg.out.mono ?_
    rintro e w2 ⟨rfl, b2⟩
    have rz := Hrz.out.below b2
    have bw := Hbw.out.trans (b2.mono (B' := w.heap.size) Hbw.out.size)
    obtain ⟨f1, f2, f3, f4, e3, i3⟩ := HC.out.below b2
    have y := two_cells e3
    obtain ⟨z0, z1, -, -⟩ := y
    have xz0 := rz.cell 0; have xz1 := rz.cell 1
    simp only [List.getElem?_toArray, List.getElem?_cons_zero, List.getElem?_cons_succ] at xz0 xz1
    have fz := frozen4 rz
    obtain ⟨g0, g1, -, -⟩ := fz
    have m := put2 rz (by simp [nonInt]) (.bool f1) (.slice f2 f3 f4) (by simp [nonInt])
    have mi := hid (m.2.int _ _ i3)
    have mb := hid (m.2.bel w.heap.size w (by omega) bw)
    clear m rz bw i3 b2 e3 y0 y1 HC Hrz Hbw
    go_wp2
    exact bodyPost_ret (v := .agg #[.bool f1, .slice f2 f3 f4]) (by simp [results, Try.results48, go_sem, xz0, xz1]) rfl ⟨_, rfl, by rw [Hdq.out]; exact mi.out, mb.out⟩

set_option maxRecDepth 100000 in
set_option maxHeartbeats 3200000 in
theorem RNeg2_any (v : Value) (p q : Int) (w : World) (h : RatRaw w v p q) (sp : sz W p.natAbs ≤ 1000) (sq : sz W q.natAbs ≤ 1000) : Calls Try.prog 51 #[v] w (RRat (-(Rat.divInt p (dn q))) w) := by
  have hd : dn q ≠ 0 := by have := dn_pos h.den; omega
  have spn : sz W (-p).natAbs ≤ 1000 := by rw [Int.natAbs_neg]; exact sp
  have sqd := sz_dn sq (by decide)
  have Hne := hid hd
  rw [Rat.neg_divInt]
  clear hd
  obtain ⟨b, p0, n0, c0, p1, n1, c1, rfl, ha0, ha1⟩ := id h
  have H := hid h; have HA := hid ha0; have HD := hid ha1
  clear h ha0 ha1
  go_enter Try.func51, Try.ntmps51
  go_upto_region 1 with fail
  generalize hW : World.alloc (World.alloc w _) _ = W0
  have bw : Below w.heap.size w W0 := by rw [← hW]; exact (below1 _ _).alloc (by simp) _
  have ra : Rec W0 w.heap.size 29 #[.bool b, .slice p0 n0 c0, .slice p1 n1 c1] := by
    rw [← hW]; exact ((Rec.new ..).below (below1 _ _))
  have rz : Rec W0 (w.heap.size + 1) 29 #[.bool false, .slice none 0 0, .slice none 0 0] := by
    rw [← hW]
    have := Rec.new (w.alloc (.cells #[.bool b, .slice p0 n0 c0, .slice p1 n1 c1] 29)) #[.bool false, .slice none 0 0, .slice none 0 0] 29
    rwa [size_alloc] at this
  clear hW
  have HRA := hid (H.out.below bw); have HA := hid (HA.out.below bw); have Hrz := hid rz; have Hbw := hid bw
  have HS : Hid (∀ w', Below W0.heap.size W0 w' → w'.cell? ⟨w.heap.size, 0, none⟩ = some (.bool b) ∧ w'.cell? ⟨w.heap.size, 1, none⟩ = some (.slice p0 n0 c0) ∧ w'.cell? ⟨w.heap.size, 2, none⟩ = some (.slice p1 n1 c1)) := fun w' hb => cells3 (ra.below hb)
  clear ra rz bw
  refine wp_region_facts (w0 := W0) 6 1 [3, 4, 5, 6, 7, 8] [undef, undef, undef, undef, undef, undef]
    (fun i => match i with | 0 => eqF (.pointer (some ⟨w.heap.size, 0, none⟩)) | 1 => eqF (.agg #[.bool b, .slice p0 n0 c0]) | 2 => intF (-p) | 3 => eqF (.agg #[.bool b, .slice p0 n0 c0, .slice p1 n1 c1]) | 4 => intF (dn q) | _ => ratF (Rat.divInt (-p) (dn q))) [] (by kernel_rfl) (by kernel_rfl) (by kernel_rfl) (by kernel_rfl) (by decide) rfl (by kernel_rfl) rfl (by simp) ?he9 ?_ ?_ ?_
  case he9 => simp only [putAll, Act.put, List.setIfInBounds_toArray, List.set_cons_zero, List.set_cons_succ]
  · intro i hi; simp at hi
  · intro i o hi ho vs wx hvl hb hdep K hK
    have hvs := len6 hvl
    obtain ⟨s3, s4, s5, s6, s7, s8, rfl⟩ := hvs
    clear hvl
    have hk := HS.out wx hb
    go_split_ands
    rcases i with _ | _ | _ | _ | _ | _ | i
    all_goals (simp only [List.getElem?_toArray, List.getElem?_cons_zero, List.getElem?_cons_succ, Option.some.injEq] at ho)
    all_goals try (subst ho)
    all_goals try simp only [putAll, Act.put, List.setIfInBounds_toArray, List.set_cons_zero, List.set_cons_succ]
    · go_simp
      have hK' := hK.out
      simp only [putAll, Act.put, List.setIfInBounds_toArray, List.set_cons_zero, List.set_cons_succ] at hK'
      exact hK' _ _ rfl (Below.refl _ _) (by simp)
    · have e0 : s3 = _ := hdep ⟨0, .data⟩ (by simp) rfl
      subst e0
      go_simp
      have hK' := hK.out
      simp only [putAll, Act.put, List.setIfInBounds_toArray, List.set_cons_zero, List.set_cons_succ] at hK'
      exact hK' _ _ rfl (Below.refl _ _) (by simp)
    · have e1 : s4 = _ := hdep ⟨1, .data⟩ (by simp) rfl
      subst e1
      go_simp
      refine (RNeg_any _ p _ (HA.out.below hb)).mono ?_
      rintro e wy ⟨vy, rfl, iy, hby⟩
      have hsh := iy.parts'
      obtain ⟨q5, p5, n5, c5, rfl, iy⟩ := hsh
      go_wp2_with fail
      have hK' := hK.out
      simp only [putAll, Act.put, List.setIfInBounds_toArray, List.set_cons_zero, List.set_cons_succ] at hK'
      exact hK' _ _ ⟨_, _, _, _, rfl, iy⟩ hby (by simp)
    · go_simp
      have hK' := hK.out
      simp only [putAll, Act.put, List.setIfInBounds_toArray, List.set_cons_zero, List.set_cons_succ] at hK'
      exact hK' _ _ rfl (Below.refl _ _) (by simp)
    · have e3 : s6 = _ := hdep ⟨3, .data⟩ (by simp) rfl
      subst e3
      go_simp
      refine (Den_any _ p q _ (HRA.out.below hb) sq).mono ?_
      rintro e wy ⟨vy, rfl, iy, hby⟩
      have hsh := iy.parts'
      obtain ⟨q5, p5, n5, c5, rfl, iy⟩ := hsh
      go_wp2_with fail
      have hK' := hK.out
      simp only [putAll, Act.put, List.setIfInBounds_toArray, List.set_cons_zero, List.set_cons_succ] at hK'
      exact hK' _ _ ⟨_, _, _, _, rfl, iy⟩ hby (by simp)
    · have e2 : (intF (-p)).P s5 wx := hdep ⟨2, .data⟩ (by simp) rfl
      obtain ⟨da2, pa2, na2, ca2, rfl, ia2⟩ := e2
      have e4 : (intF (dn q)).P s7 wx := hdep ⟨4, .data⟩ (by simp) rfl
      obtain ⟨da4, pa4, na4, ca4, rfl, ia4⟩ := e4
      go_simp
      refine (Make_any _ _ (-p) (dn q) _ (ia2.raw (by omega)) (ia4.raw (by omega)) Hne.out spn sqd).mono ?_
      rintro e wy ⟨vy, rfl, iy, hby⟩
      obtain ⟨e1, e2, e3, e4, e5, e6, e7, rfl, iy0, iy1⟩ := iy
      go_wp2_with fail
      have hK' := hK.out
      simp only [putAll, Act.put, List.setIfInBounds_toArray, List.set_cons_zero, List.set_cons_succ] at hK'
      exact hK' _ _ ⟨_, _, _, _, _, _, _, rfl, iy0, iy1⟩ hby (by simp)
    · omega
  · intro vs wx hvl hb hf hdist
    have hvs := len6 hvl
    obtain ⟨s3, s4, s5, s6, s7, s8, rfl⟩ := hvs
    have f5 : RatTold wx s8 (Rat.divInt (-p) (dn q)) := hf 5 (by decide)
    obtain ⟨e11, e12, e13, e14, e15, e16, e17, rfl, i1, i2⟩ := f5
    have rz := Hrz.out.below hb
    have xz := cells3 rz
    obtain ⟨z0, z1, z2⟩ := xz
    have fz := frozen4 rz
    obtain ⟨fz0, fz1, fz2, -⟩ := fz
    clear hf hdist hvl
    refine wpAny_one (i := 6) (by kernel_rfl) rfl ?_
    intro K hK
    simp only [putAll, Act.put, List.setIfInBounds_toArray, List.set_cons_zero, List.set_cons_succ]
    go_simp
    have hK' := hK.out
    apply hK'
    clear hK hK'
    have m := put3 rz (by simp [nonInt]) (.bool e11) (.slice e12 e13 e14) (.slice e15 e16 e17) (by simp [nonInt])
    have j1 := m.2.int _ _ i1; have j2 := m.2.int _ _ i2
    have jb := m.2.bel w.heap.size w (by omega) (Hbw.out.trans (hb.mono (B' := w.heap.size) Hbw.out.size))
    have xm := cells3 m.1
    clear m rz z0 z1 z2 fz0 fz1 fz2 i1 i2
    generalize (((wx.setCell ⟨w.heap.size + 1, 0, none⟩ (.bool e11)).setCell ⟨w.heap.size + 1, 1, none⟩ (.slice e12 e13 e14)).setCell ⟨w.heap.size + 1, 2, none⟩ (.slice e15 e16 e17)) = wz at *
    obtain ⟨z0, z1, z2⟩ := xm
    refine wpAny_done (by kernel_rfl) ?_ _
    go_wp2
    exact bodyPost_ret (v := .agg #[.bool e11, .slice e12 e13 e14, .slice e15 e16 e17]) (by simp [results, Try.results51, go_sem, z0, z1, z2]) rfl ⟨_, rfl, ⟨_, _, _, _, _, _, _, rfl, j1, j2⟩, jb⟩

set_option maxRecDepth 100000 in
set_option maxHeartbeats 6400000 in
theorem RMul2_any (v0 v1 : Value) (p q r s : Int) (w : World) (h0 : RatRaw w v0 p q) (h1 : RatRaw w v1 r s) (l0 : sz W p.natAbs ≤ 400) (l1 : sz W q.natAbs ≤ 400) (l2 : sz W r.natAbs ≤ 400) (l3 : sz W s.natAbs ≤ 400) :
    Calls Try.prog 27 #[v0, v1] w (RRat (Rat.divInt p (dn q) * Rat.divInt r (dn s)) w) := by
  have hx : Rat.divInt p (dn q) * Rat.divInt r (dn s) = Rat.divInt (p * r) (dn q * dn s) := Rat.divInt_mul_divInt _ _
  have hne : dn q * dn s ≠ 0 := by
    have := Int.mul_pos (dn_pos h0.den) (dn_pos h1.den)
    omega
  rw [hx]
  have Hne := hid hne
  have l1' := sz_dn l1 (by decide)
  have l3' := sz_dn l3 (by decide)
  have la := hid (sz_mul2 l0 l2); have lb := hid (sz_mul2 l1' l3')
  clear hx hne
  obtain ⟨b, p0, n0, c0, p1, n1, c1, rfl, ha0, ha1⟩ := id h0
  obtain ⟨b', p2, n2, c2, p3, n3, c3, rfl, hb0, hb1⟩ := id h1
  have HRA := hid h0; have HRB := hid h1; have HPA := hid ha0; have HPB := hid hb0
  clear ha0 ha1 hb0 hb1 h0 h1
  go_enter Try.func27, Try.ntmps27
  go_upto_region 1 with fail
  generalize hW : World.alloc (World.alloc (World.alloc w _) _) _ = W0
  have bw : Below w.heap.size w W0 := by rw [← hW]; exact ((below1 _ _).alloc (by simp) _).alloc (by simp; omega) _
  have ra : Rec W0 w.heap.size 29 #[.bool b, .slice p0 n0 c0, .slice p1 n1 c1] := by
    rw [← hW]; exact ((Rec.new ..).below (below1 _ _)).below (below1 _ _)
  have rb : Rec W0 (w.heap.size + 1) 29 #[.bool b', .slice p2 n2 c2, .slice p3 n3 c3] := by
    rw [← hW]
    have := (Rec.new (w.alloc (.cells #[.bool b, .slice p0 n0 c0, .slice p1 n1 c1] 29)) #[.bool b', .slice p2 n2 c2, .slice p3 n3 c3] 29)
    rw [size_alloc] at this
    exact this.below (below1 _ _)
  have rz : Rec W0 (w.heap.size + 1 + 1) 29 #[.bool false, .slice none 0 0, .slice none 0 0] := by
    rw [← hW]
    have := Rec.new ((w.alloc (.cells #[.bool b, .slice p0 n0 c0, .slice p1 n1 c1] 29)).alloc (.cells #[.bool b', .slice p2 n2 c2, .slice p3 n3 c3] 29)) #[.bool false, .slice none 0 0, .slice none 0 0] 29
    rwa [size_alloc, size_alloc] at this
  have Hrz := hid rz
  clear rz
  have HS : Hid (∀ w', Below W0.heap.size W0 w' → w'.cell? ⟨w.heap.size, 0, none⟩ = some (.bool b) ∧ w'.cell? ⟨w.heap.size, 1, none⟩ = some (.slice p0 n0 c0) ∧ w'.cell? ⟨w.heap.size, 2, none⟩ = some (.slice p1 n1 c1) ∧
      w'.cell? ⟨w.heap.size + 1, 0, none⟩ = some (.bool b') ∧ w'.cell? ⟨w.heap.size + 1, 1, none⟩ = some (.slice p2 n2 c2) ∧ w'.cell? ⟨w.heap.size + 1, 2, none⟩ = some (.slice p3 n3 c3)) := by
    intro w' hb
    have xa := cells3 (ra.below hb)
    have xb := cells3 (rb.below hb)
    exact ⟨xa.1, xa.2.1, xa.2.2, xb.1, xb.2.1, xb.2.2⟩
  have HPA := hid (HPA.out.below bw); have HPB := hid (HPB.out.below bw); have HRA := hid (HRA.out.below bw); have HRB := hid (HRB.out.below bw); have Hbw := hid bw
  clear hW ra rb bw
  refine wp_region_facts (w0 := W0) 11 1 [5, 6, 7, 8, 9, 10, 11, 12, 13, 14, 15] [undef, undef, undef, undef, undef, undef, undef, undef, undef, undef, undef]
    (fun i => match i with | 0 => eqF (.pointer (some ⟨w.heap.size, 0, none⟩)) | 1 => eqF (.agg #[.bool b, .slice p0 n0 c0]) | 2 => eqF (.pointer (some ⟨w.heap.size + 1, 0, none⟩)) | 3 => eqF (.agg #[.bool b', .slice p2 n2 c2]) | 4 => intF (p * r) | 5 => eqF (.agg #[.bool b, .slice p0 n0 c0, .slice p1 n1 c1]) | 6 => intF (dn q) | 7 => eqF (.agg #[.bool b', .slice p2 n2 c2, .slice p3 n3 c3]) | 8 => intF (dn s) | 9 => intF (dn q * dn s) | _ => ratF (Rat.divInt (p * r) (dn q * dn s))) [] (by kernel_rfl) (by kernel_rfl) (by kernel_rfl) (by kernel_rfl) (by decide) rfl (by kernel_rfl) rfl (by simp) ?he10 ?_ ?_ ?_
  case he10 => simp only [putAll, Act.put, List.setIfInBounds_toArray, List.set_cons_zero, List.set_cons_succ]
  · intro i hi; simp at hi
  · intro i o hi ho vs wx hvl hb hdep K hK
    have hvs := len11 hvl
    obtain ⟨s5, s6, s7, s8, s9, s10, s11, s12, s13, s14, s15, rfl⟩ := hvs
    clear hvl
    have hk := HS.out wx hb
    go_split_ands
    rcases i with _ | _ | _ | _ | _ | _ | _ | _ | _ | _ | _ | i
    all_goals (simp only [List.getElem?_toArray, List.getElem?_cons_zero, List.getElem?_cons_succ, Option.some.injEq] at ho)
    all_goals try (subst ho)
    all_goals try simp only [putAll, Act.put, List.setIfInBounds_toArray, List.set_cons_zero, List.set_cons_succ]
    · go_simp
      have hK' := hK.out
      simp only [putAll, Act.put, List.setIfInBounds_toArray, List.set_cons_zero, List.set_cons_succ] at hK'
      exact hK' _ _ rfl (Below.refl _ _) (by simp)
    · have e0 : s5 = _ := hdep ⟨0, .data⟩ (by simp) rfl
      subst e0
      go_simp
      have hK' := hK.out
      simp only [putAll, Act.put, List.setIfInBounds_toArray, List.set_cons_zero, List.set_cons_succ] at hK'
      exact hK' _ _ rfl (Below.refl _ _) (by simp)
    · go_simp
      have hK' := hK.out
      simp only [putAll, Act.put, List.setIfInBounds_toArray, List.set_cons_zero, List.set_cons_succ] at hK'
      exact hK' _ _ rfl (Below.refl _ _) (by simp)
    · have e2 : s7 = _ := hdep ⟨2, .data⟩ (by simp) rfl
      subst e2
      go_simp
      have hK' := hK.out
      simp only [putAll, Act.put, List.setIfInBounds_toArray, List.set_cons_zero, List.set_cons_succ] at hK'
      exact hK' _ _ rfl (Below.refl _ _) (by simp)
    · have e1 : s6 = _ := hdep ⟨1, .data⟩ (by simp) rfl
      subst e1
      have e3 : s8 = _ := hdep ⟨3, .data⟩ (by simp) rfl
      subst e3
      go_simp
      refine (RMul_any _ _ p r _ (HPA.out.below hb) (HPB.out.below hb) (by omega) (by omega)).mono ?_
      rintro e wy ⟨vy, rfl, iy, hby⟩
      have hsh := iy.parts'
      obtain ⟨q5, p5, n5, c5, rfl, iy⟩ := hsh
      go_wp2_with fail
      have hK' := hK.out
      simp only [putAll, Act.put, List.setIfInBounds_toArray, List.set_cons_zero, List.set_cons_succ] at hK'
      exact hK' _ _ ⟨_, _, _, _, rfl, iy⟩ hby (by simp)
    · go_simp
      have hK' := hK.out
      simp only [putAll, Act.put, List.setIfInBounds_toArray, List.set_cons_zero, List.set_cons_succ] at hK'
      exact hK' _ _ rfl (Below.refl _ _) (by simp)
    · have e5 : s10 = _ := hdep ⟨5, .data⟩ (by simp) rfl
      subst e5
      go_simp
      refine (Den_any _ p q _ (HRA.out.below hb) (by omega)).mono ?_
      rintro e wy ⟨vy, rfl, iy, hby⟩
      have hsh := iy.parts'
      obtain ⟨q5, p5, n5, c5, rfl, iy⟩ := hsh
      go_wp2_with fail
      have hK' := hK.out
      simp only [putAll, Act.put, List.setIfInBounds_toArray, List.set_cons_zero, List.set_cons_succ] at hK'
      exact hK' _ _ ⟨_, _, _, _, rfl, iy⟩ hby (by simp)
    · go_simp
      have hK' := hK.out
      simp only [putAll, Act.put, List.setIfInBounds_toArray, List.set_cons_zero, List.set_cons_succ] at hK'
      exact hK' _ _ rfl (Below.refl _ _) (by simp)
    · have e7 : s12 = _ := hdep ⟨7, .data⟩ (by simp) rfl
      subst e7
      go_simp
      refine (Den_any _ r s _ (HRB.out.below hb) (by omega)).mono ?_
      rintro e wy ⟨vy, rfl, iy, hby⟩
      have hsh := iy.parts'
      obtain ⟨q5, p5, n5, c5, rfl, iy⟩ := hsh
      go_wp2_with fail
      have hK' := hK.out
      simp only [putAll, Act.put, List.setIfInBounds_toArray, List.set_cons_zero, List.set_cons_succ] at hK'
      exact hK' _ _ ⟨_, _, _, _, rfl, iy⟩ hby (by simp)
    · have e6 : (intF (dn q)).P s11 wx := hdep ⟨6, .data⟩ (by simp) rfl
      obtain ⟨da6, pa6, na6, ca6, rfl, ia6⟩ := e6
      have e8 : (intF (dn s)).P s13 wx := hdep ⟨8, .data⟩ (by simp) rfl
      obtain ⟨da8, pa8, na8, ca8, rfl, ia8⟩ := e8
      go_simp
      refine (RMul_any _ _ (dn q) (dn s) _ (ia6.raw (by omega)) (ia8.raw (by omega)) (by omega) (by omega)).mono ?_
      rintro e wy ⟨vy, rfl, iy, hby⟩
      have hsh := iy.parts'
      obtain ⟨q5, p5, n5, c5, rfl, iy⟩ := hsh
      go_wp2_with fail
      have hK' := hK.out
      simp only [putAll, Act.put, List.setIfInBounds_toArray, List.set_cons_zero, List.set_cons_succ] at hK'
      exact hK' _ _ ⟨_, _, _, _, rfl, iy⟩ hby (by simp)
    · have e4 : (intF (p * r)).P s9 wx := hdep ⟨4, .data⟩ (by simp) rfl
      obtain ⟨da4, pa4, na4, ca4, rfl, ia4⟩ := e4
      have e9 : (intF (dn q * dn s)).P s14 wx := hdep ⟨9, .data⟩ (by simp) rfl
      obtain ⟨da9, pa9, na9, ca9, rfl, ia9⟩ := e9
      go_simp
      refine (Make_any _ _ (p * r) (dn q * dn s) _ (ia4.raw (by have := la.out; omega)) (ia9.raw (by have := lb.out; omega)) Hne.out (by have := la.out; omega) (by have := lb.out; omega)).mono ?_
      rintro e wy ⟨vy, rfl, iy, hby⟩
      obtain ⟨e1, e2, e3, e4, e5, e6, e7, rfl, iy0, iy1⟩ := iy
      go_wp2_with fail
      have hK' := hK.out
      simp only [putAll, Act.put, List.setIfInBounds_toArray, List.set_cons_zero, List.set_cons_succ] at hK'
      exact hK' _ _ ⟨_, _, _, _, _, _, _, rfl, iy0, iy1⟩ hby (by simp)
    · omega
  · intro vs wx hvl hb hf hdist
    have hvs := len11 hvl
    obtain ⟨s5, s6, s7, s8, s9, s10, s11, s12, s13, s14, s15, rfl⟩ := hvs
    have f10 : RatTold wx s15 (Rat.divInt (p * r) (dn q * dn s)) := hf 10 (by decide)
    obtain ⟨e11, e12, e13, e14, e15, e16, e17, rfl, i1, i2⟩ := f10
    have rz := Hrz.out.below hb
    have xz := cells3 rz
    obtain ⟨z0, z1, z2⟩ := xz
    have fz := frozen4 rz
    obtain ⟨fz0, fz1, fz2, -⟩ := fz
    clear hf hdist hvl
    refine wpAny_one (i := 11) (by kernel_rfl) rfl ?_
    intro K hK
    simp only [putAll, Act.put, List.setIfInBounds_toArray, List.set_cons_zero, List.set_cons_succ]
    go_simp
    have hK' := hK.out
    apply hK'
    clear hK hK'
    have m := put3 rz (by simp [nonInt]) (.bool e11) (.slice e12 e13 e14) (.slice e15 e16 e17) (by simp [nonInt])
    have j1 := m.2.int _ _ i1; have j2 := m.2.int _ _ i2
    have jb := m.2.bel w.heap.size w (by omega) (Hbw.out.trans (hb.mono (B' := w.heap.size) Hbw.out.size))
    have xm := cells3 m.1
    clear m rz z0 z1 z2 fz0 fz1 fz2 i1 i2
    generalize (((wx.setCell ⟨w.heap.size + 1 + 1, 0, none⟩ (.bool e11)).setCell ⟨w.heap.size + 1 + 1, 1, none⟩ (.slice e12 e13 e14)).setCell ⟨w.heap.size + 1 + 1, 2, none⟩ (.slice e15 e16 e17)) = wz at *
    obtain ⟨z0, z1, z2⟩ := xm
    refine wpAny_done (by kernel_rfl) ?_ _
    go_wp2
    exact bodyPost_ret (v := .agg #[.bool e11, .slice e12 e13 e14, .slice e15 e16 e17]) (by simp [results, Try.results27, go_sem, z0, z1, z2]) rfl ⟨_, rfl, ⟨_, _, _, _, _, _, _, rfl, j1, j2⟩, jb⟩

end Go.Proofs.Yteiniokddopacaa
/- elenchusref02's Div, Sign. -/
namespace Go.Proofs.Yteiniokddopacaa
open Go.RowKit Big

set_option maxRecDepth 100000 in
set_option maxHeartbeats 6400000 in
theorem RDiv2_any (v0 v1 : Value) (p q r s : Int) (w : World) (h0 : RatRaw w v0 p q) (h1 : RatRaw w v1 r s) (l0 : sz W p.natAbs ≤ 400) (l1 : sz W q.natAbs ≤ 400) (l2 : sz W r.natAbs ≤ 400) (l3 : sz W s.natAbs ≤ 400) (hr : r ≠ 0) :
    Calls Try.prog 28 #[v0, v1] w (RRat (Rat.divInt p (dn q) / Rat.divInt r (dn s)) w) := by
  have hx : Rat.divInt p (dn q) / Rat.divInt r (dn s) = Rat.divInt (p * dn s) (dn q * r) := by
    rw [Rat.div_def, Rat.inv_divInt, Rat.divInt_mul_divInt]
  have hne : dn q * r ≠ 0 := Int.mul_ne_zero (by have := dn_pos h0.den; omega) hr
  rw [hx]
  have Hne := hid hne
  have l1' := sz_dn l1 (by decide)
  have l3' := sz_dn l3 (by decide)
  have la := hid (sz_mul2 l0 l3'); have lb := hid (sz_mul2 l1' l2)
  clear hx hne hr
  obtain ⟨b, p0, n0, c0, p1, n1, c1, rfl, ha0, ha1⟩ := id h0
  obtain ⟨b', p2, n2, c2, p3, n3, c3, rfl, hb0, hb1⟩ := id h1
  have HRA := hid h0; have HRB := hid h1; have HPA := hid ha0; have HPB := hid hb0
  clear ha0 ha1 hb0 hb1 h0 h1
  go_enter Try.func28, Try.ntmps28
  go_upto_region 1 with fail
  generalize hW : World.alloc (World.alloc (World.alloc w _) _) _ = W0
  have bw : Below w.heap.size w W0 := by rw [← hW]; exact ((below1 _ _).alloc (by simp) _).alloc (by simp; omega) _
  have ra : Rec W0 w.heap.size 29 #[.bool b, .slice p0 n0 c0, .slice p1 n1 c1] := by
    rw [← hW]; exact ((Rec.new ..).below (below1 _ _)).below (below1 _ _)
  have rb : Rec W0 (w.heap.size + 1) 29 #[.bool b', .slice p2 n2 c2, .slice p3 n3 c3] := by
    rw [← hW]
    have := (Rec.new (w.alloc (.cells #[.bool b, .slice p0 n0 c0, .slice p1 n1 c1] 29)) #[.bool b', .slice p2 n2 c2, .slice p3 n3 c3] 29)
    rw [size_alloc] at this
    exact this.below (below1 _ _)
  have rz : Rec W0 (w.heap.size + 1 + 1) 29 #[.bool false, .slice none 0 0, .slice none 0 0] := by
    rw [← hW]
    have := Rec.new ((w.alloc (.cells #[.bool b, .slice p0 n0 c0, .slice p1 n1 c1] 29)).alloc (.cells #[.bool b', .slice p2 n2 c2, .slice p3 n3 c3] 29)) #[.bool false, .slice none 0 0, .slice none 0 0] 29
    rwa [size_alloc, size_alloc] at this
  have Hrz := hid rz
  clear rz
  have HS : Hid (∀ w', Below W0.heap.size W0 w' → w'.cell? ⟨w.heap.size, 0, none⟩ = some (.bool b) ∧ w'.cell? ⟨w.heap.size, 1, none⟩ = some (.slice p0 n0 c0) ∧ w'.cell? ⟨w.heap.size, 2, none⟩ = some (.slice p1 n1 c1) ∧
      w'.cell? ⟨w.heap.size + 1, 0, none⟩ = some (.bool b') ∧ w'.cell? ⟨w.heap.size + 1, 1, none⟩ = some (.slice p2 n2 c2) ∧ w'.cell? ⟨w.heap.size + 1, 2, none⟩ = some (.slice p3 n3 c3)) := by
    intro w' hb
    have xa := cells3 (ra.below hb)
    have xb := cells3 (rb.below hb)
    exact ⟨xa.1, xa.2.1, xa.2.2, xb.1, xb.2.1, xb.2.2⟩
  have HPA := hid (HPA.out.below bw); have HPB := hid (HPB.out.below bw); have HRA := hid (HRA.out.below bw); have HRB := hid (HRB.out.below bw); have Hbw := hid bw
  clear hW ra rb bw
  refine wp_region_facts (w0 := W0) 11 1 [5, 6, 7, 8, 9, 10, 11, 12, 13, 14, 15] [undef, undef, undef, undef, undef, undef, undef, undef, undef, undef, undef]
    (fun i => match i with | 0 => eqF (.pointer (some ⟨w.heap.size, 0, none⟩)) | 1 => eqF (.agg #[.bool b, .slice p0 n0 c0]) | 2 => eqF (.agg #[.bool b', .slice p2 n2 c2, .slice p3 n3 c3]) | 3 => intF (dn s) | 4 => intF (p * dn s) | 5 => eqF (.agg #[.bool b, .slice p0 n0 c0, .slice p1 n1 c1]) | 6 => intF (dn q) | 7 => eqF (.pointer (some ⟨w.heap.size + 1, 0, none⟩)) | 8 => eqF (.agg #[.bool b', .slice p2 n2 c2]) | 9 => intF (dn q * r) | _ => ratF (Rat.divInt (p * dn s) (dn q * r))) [] (by kernel_rfl) (by kernel_rfl) (by kernel_rfl) (by kernel_rfl) (by decide) rfl (by kernel_rfl) rfl (by simp) ?he11 ?_ ?_ ?_
  case he11 => simp only [putAll, Act.put, List.setIfInBounds_toArray, List.set_cons_zero, List.set_cons_succ]
  · intro i hi; simp at hi
  · intro i o hi ho vs wx hvl hb hdep K hK
    have hvs := len11 hvl
    obtain ⟨s5, s6, s7, s8, s9, s10, s11, s12, s13, s14, s15, rfl⟩ := hvs
    clear hvl
    have hk := HS.out wx hb
    go_split_ands
    rcases i with _ | _ | _ | _ | _ | _ | _ | _ | _ | _ | _ | i
    all_goals (simp only [List.getElem?_toArray, List.getElem?_cons_zero, List.getElem?_cons_succ, Option.some.injEq] at ho)
    all_goals try (subst ho)
    all_goals try simp only [putAll, Act.put, List.setIfInBounds_toArray, List.set_cons_zero, List.set_cons_succ]
    · go_simp
      have hK' := hK.out
      simp only [putAll, Act.put, List.setIfInBounds_toArray, List.set_cons_zero, List.set_cons_succ] at hK'
      exact hK' _ _ rfl (Below.refl _ _) (by simp)
    · have e0 : s5 = _ := hdep ⟨0, .data⟩ (by simp) rfl
      subst e0
      go_simp
      have hK' := hK.out
      simp only [putAll, Act.put, List.setIfInBounds_toArray, List.set_cons_zero, List.set_cons_succ] at hK'
      exact hK' _ _ rfl (Below.refl _ _) (by simp)
    · go_simp
      have hK' := hK.out
      simp only [putAll, Act.put, List.setIfInBounds_toArray, List.set_cons_zero, List.set_cons_succ] at hK'
      exact hK' _ _ rfl (Below.refl _ _) (by simp)
    · have e2 : s7 = _ := hdep ⟨2, .data⟩ (by simp) rfl
      subst e2
      go_simp
      refine (Den_any _ r s _ (HRB.out.below hb) (by omega)).mono ?_
      rintro e wy ⟨vy, rfl, iy, hby⟩
      have hsh := iy.parts'
      obtain ⟨q5, p5, n5, c5, rfl, iy⟩ := hsh
      go_wp2_with fail
      have hK' := hK.out
      simp only [putAll, Act.put, List.setIfInBounds_toArray, List.set_cons_zero, List.set_cons_succ] at hK'
      exact hK' _ _ ⟨_, _, _, _, rfl, iy⟩ hby (by simp)
    · have e1 : s6 = _ := hdep ⟨1, .data⟩ (by simp) rfl
      subst e1
      have e3 : (intF (dn s)).P s8 wx := hdep ⟨3, .data⟩ (by simp) rfl
      obtain ⟨da3, pa3, na3, ca3, rfl, ia3⟩ := e3
      go_simp
      refine (RMul_any _ _ p (dn s) _ (HPA.out.below hb) (ia3.raw (by omega)) (by omega) (by omega)).mono ?_
      rintro e wy ⟨vy, rfl, iy, hby⟩
      have hsh := iy.parts'
      obtain ⟨q5, p5, n5, c5, rfl, iy⟩ := hsh
      go_wp2_with fail
      have hK' := hK.out
      simp only [putAll, Act.put, List.setIfInBounds_toArray, List.set_cons_zero, List.set_cons_succ] at hK'
      exact hK' _ _ ⟨_, _, _, _, rfl, iy⟩ hby (by simp)
    · go_simp
      have hK' := hK.out
      simp only [putAll, Act.put, List.setIfInBounds_toArray, List.set_cons_zero, List.set_cons_succ] at hK'
      exact hK' _ _ rfl (Below.refl _ _) (by simp)
    · have e5 : s10 = _ := hdep ⟨5, .data⟩ (by simp) rfl
      subst e5
      go_simp
      refine (Den_any _ p q _ (HRA.out.below hb) (by omega)).mono ?_
      rintro e wy ⟨vy, rfl, iy, hby⟩
      have hsh := iy.parts'
      obtain ⟨q5, p5, n5, c5, rfl, iy⟩ := hsh
      go_wp2_with fail
      have hK' := hK.out
      simp only [putAll, Act.put, List.setIfInBounds_toArray, List.set_cons_zero, List.set_cons_succ] at hK'
      exact hK' _ _ ⟨_, _, _, _, rfl, iy⟩ hby (by simp)
    · go_simp
      have hK' := hK.out
      simp only [putAll, Act.put, List.setIfInBounds_toArray, List.set_cons_zero, List.set_cons_succ] at hK'
      exact hK' _ _ rfl (Below.refl _ _) (by simp)
    · have e7 : s12 = _ := hdep ⟨7, .data⟩ (by simp) rfl
      subst e7
      go_simp
      have hK' := hK.out
      simp only [putAll, Act.put, List.setIfInBounds_toArray, List.set_cons_zero, List.set_cons_succ] at hK'
      exact hK' _ _ rfl (Below.refl _ _) (by simp)
    · have e6 : (intF (dn q)).P s11 wx := hdep ⟨6, .data⟩ (by simp) rfl
      obtain ⟨da6, pa6, na6, ca6, rfl, ia6⟩ := e6
      have e8 : s13 = _ := hdep ⟨8, .data⟩ (by simp) rfl
      subst e8
      go_simp
      refine (RMul_any _ _ (dn q) r _ (ia6.raw (by omega)) (HPB.out.below hb) (by omega) (by omega)).mono ?_
      rintro e wy ⟨vy, rfl, iy, hby⟩
      have hsh := iy.parts'
      obtain ⟨q5, p5, n5, c5, rfl, iy⟩ := hsh
      go_wp2_with fail
      have hK' := hK.out
      simp only [putAll, Act.put, List.setIfInBounds_toArray, List.set_cons_zero, List.set_cons_succ] at hK'
      exact hK' _ _ ⟨_, _, _, _, rfl, iy⟩ hby (by simp)
    · have e4 : (intF (p * dn s)).P s9 wx := hdep ⟨4, .data⟩ (by simp) rfl
      obtain ⟨da4, pa4, na4, ca4, rfl, ia4⟩ := e4
      have e9 : (intF (dn q * r)).P s14 wx := hdep ⟨9, .data⟩ (by simp) rfl
      obtain ⟨da9, pa9, na9, ca9, rfl, ia9⟩ := e9
      go_simp
      refine (Make_any _ _ (p * dn s) (dn q * r) _ (ia4.raw (by have := la.out; omega)) (ia9.raw (by have := lb.out; omega)) Hne.out (by have := la.out; omega) (by have := lb.out; omega)).mono ?_
      rintro e wy ⟨vy, rfl, iy, hby⟩
      obtain ⟨e1, e2, e3, e4, e5, e6, e7, rfl, iy0, iy1⟩ := iy
      go_wp2_with fail
      have hK' := hK.out
      simp only [putAll, Act.put, List.setIfInBounds_toArray, List.set_cons_zero, List.set_cons_succ] at hK'
      exact hK' _ _ ⟨_, _, _, _, _, _, _, rfl, iy0, iy1⟩ hby (by simp)
    · omega
  · intro vs wx hvl hb hf hdist
    have hvs := len11 hvl
    obtain ⟨s5, s6, s7, s8, s9, s10, s11, s12, s13, s14, s15, rfl⟩ := hvs
    have f10 : RatTold wx s15 (Rat.divInt (p * dn s) (dn q * r)) := hf 10 (by decide)
    obtain ⟨e11, e12, e13, e14, e15, e16, e17, rfl, i1, i2⟩ := f10
    have rz := Hrz.out.below hb
    have xz := cells3 rz
    obtain ⟨z0, z1, z2⟩ := xz
    have fz := frozen4 rz
    obtain ⟨fz0, fz1, fz2, -⟩ := fz
    clear hf hdist hvl
    refine wpAny_one (i := 11) (by kernel_rfl) rfl ?_
    intro K hK
    simp only [putAll, Act.put, List.setIfInBounds_toArray, List.set_cons_zero, List.set_cons_succ]
    go_simp
    have hK' := hK.out
    apply hK'
    clear hK hK'
    have m := put3 rz (by simp [nonInt]) (.bool e11) (.slice e12 e13 e14) (.slice e15 e16 e17) (by simp [nonInt])
    have j1 := m.2.int _ _ i1; have j2 := m.2.int _ _ i2
    have jb := m.2.bel w.heap.size w (by omega) (Hbw.out.trans (hb.mono (B' := w.heap.size) Hbw.out.size))
    have xm := cells3 m.1
    clear m rz z0 z1 z2 fz0 fz1 fz2 i1 i2
    generalize (((wx.setCell ⟨w.heap.size + 1 + 1, 0, none⟩ (.bool e11)).setCell ⟨w.heap.size + 1 + 1, 1, none⟩ (.slice e12 e13 e14)).setCell ⟨w.heap.size + 1 + 1, 2, none⟩ (.slice e15 e16 e17)) = wz at *
    obtain ⟨z0, z1, z2⟩ := xm
    refine wpAny_done (by kernel_rfl) ?_ _
    go_wp2
    exact bodyPost_ret (v := .agg #[.bool e11, .slice e12 e13 e14, .slice e15 e16 e17]) (by simp [results, Try.results28, go_sem, z0, z1, z2]) rfl ⟨_, rfl, ⟨_, _, _, _, _, _, _, rfl, j1, j2⟩, jb⟩

set_option maxRecDepth 100000 in
set_option maxHeartbeats 1600000 in
theorem RSign2_any (v : Value) (p q : Int) (w : World) (h : RatRaw w v p q) : Calls Try.prog 24 #[v] w (RNum .i64 p.sign w) := by
  obtain ⟨b, p0, n0, c0, p1, n1, c1, rfl, ha0, ha1⟩ := id h
  have H := hid h; have HA := hid ha0; have HD := hid ha1
  clear h ha0 ha1
  go_enter Try.func24, Try.ntmps24
  go_wp2_with fail
  refine (RSign_any _ p _ (HA.out.below (below1 _ _))).mono ?_
  rintro e w1 ⟨rfl, b1⟩
  have bw := hid ((below1 w (.cells #[.bool b, .slice p0 n0 c0, .slice p1 n1 c1] 29)).trans (b1.mono (B' := w.heap.size) (by simp)))
  clear b1
  go_wp2_with fail
  go_ret
  exact ⟨rfl, bw.out⟩
theorem RMul2_in {w : World} {v0 v1 : Value} {x y : Rat} (h0 : QIn w v0 x 400) (h1 : QIn w v1 y 400) : Calls Try.prog 27 #[v0, v1] w (RRat (x * y) w) := by
  obtain ⟨p, q, a, rfl, l0, l1⟩ := h0
  obtain ⟨r, s, b, rfl, l2, l3⟩ := h1
  exact RMul2_any _ _ p q r s w a b l0 l1 l2 l3
theorem RDiv2_in {w : World} {v0 v1 : Value} {x y : Rat} (h0 : QIn w v0 x 400) (h1 : QIn w v1 y 400) (hy : y ≠ 0) : Calls Try.prog 28 #[v0, v1] w (RRat (x / y) w) := by
  obtain ⟨p, q, a, rfl, l0, l1⟩ := h0
  obtain ⟨r, s, b, rfl, l2, l3⟩ := h1
  exact RDiv2_any _ _ p q r s w a b l0 l1 l2 l3 (fun e => hy ((div_zero_iff (dn_pos b.den)).2 e))
theorem RSign2_in {w : World} {v : Value} {x : Rat} {k : Nat} (h : QIn w v x k) : Calls Try.prog 24 #[v] w (RNum .i64 (cq x 0) w) := by
  obtain ⟨p, q, a, rfl, -⟩ := h
  have := RSign2_any v p q w a
  have e : p.sign = cq (Rat.divInt p (dn q)) 0 := by
    have h := cq_ord (p := p) (r := 0) (dn_pos a.den) (show (0 : Int) < 1 by decide)
    rw [Rat.zero_divInt, Int.mul_one, Int.zero_mul] at h
    rw [← h]
    rcases Int.lt_trichotomy p 0 with h1 | h1 | h1
    · rw [ord_lt h1, Int.sign_eq_neg_one_of_neg h1]
    · subst h1; rfl
    · rw [ord_gt h1, Int.sign_eq_one_of_pos h1]
  rwa [e] at this
end Go.Proofs.Yteiniokddopacaa
/- elenchusref02's Add. -/
namespace Go.Proofs.Yteiniokddopacaa
open Go.RowKit Big

set_option maxRecDepth 100000 in
set_option maxHeartbeats 6400000 in
theorem RAdd2_any (v0 v1 : Value) (p q r s : Int) (w : World) (h0 : RatRaw w v0 p q) (h1 : RatRaw w v1 r s) (l0 : sz W p.natAbs ≤ 400) (l1 : sz W q.natAbs ≤ 400) (l2 : sz W r.natAbs ≤ 400) (l3 : sz W s.natAbs ≤ 400) :
    Calls Try.prog 18 #[v0, v1] w (RRat (Rat.divInt p (dn q) + Rat.divInt r (dn s)) w) := by
  have hq := dn_pos h0.den
  have hs := dn_pos h1.den
  have hx : Rat.divInt p (dn q) + Rat.divInt r (dn s) = Rat.divInt (p * dn s + r * dn q) (dn q * dn s) := Rat.divInt_add_divInt _ _ (by omega) (by omega)
  have hne : dn q * dn s ≠ 0 := by
    have := Int.mul_pos hq hs
    omega
  rw [hx]
  have Hne := hid hne
  have l1' := sz_dn l1 (by decide)
  have l3' := sz_dn l3 (by decide)
  have la := sz_mul2 l0 l3'; have lb := sz_mul2 l2 l1'
  have lc := hid (sz_mul2 l1' l3'); have ld := hid (sz_add2 la lb)
  have la := hid la; have lb := hid lb
  clear hx hne hq hs
  obtain ⟨b, p0, n0, c0, p1, n1, c1, rfl, ha0, ha1⟩ := id h0
  obtain ⟨b', p2, n2, c2, p3, n3, c3, rfl, hb0, hb1⟩ := id h1
  have HRA := hid h0; have HRB := hid h1; have HPA := hid ha0; have HPB := hid hb0
  clear ha0 ha1 hb0 hb1 h0 h1
  go_enter Try.func18, Try.ntmps18
  go_upto_region 1 with fail
  generalize hW : World.alloc (World.alloc (World.alloc w _) _) _ = W0
  have bw : Below w.heap.size w W0 := by rw [← hW]; exact ((below1 _ _).alloc (by simp) _).alloc (by simp; omega) _
  have ra : Rec W0 w.heap.size 29 #[.bool b, .slice p0 n0 c0, .slice p1 n1 c1] := by
    rw [← hW]; exact ((Rec.new ..).below (below1 _ _)).below (below1 _ _)
  have rb : Rec W0 (w.heap.size + 1) 29 #[.bool b', .slice p2 n2 c2, .slice p3 n3 c3] := by
    rw [← hW]
    have := (Rec.new (w.alloc (.cells #[.bool b, .slice p0 n0 c0, .slice p1 n1 c1] 29)) #[.bool b', .slice p2 n2 c2, .slice p3 n3 c3] 29)
    rw [size_alloc] at this
    exact this.below (below1 _ _)
  have rz : Rec W0 (w.heap.size + 1 + 1) 29 #[.bool false, .slice none 0 0, .slice none 0 0] := by
    rw [← hW]
    have := Rec.new ((w.alloc (.cells #[.bool b, .slice p0 n0 c0, .slice p1 n1 c1] 29)).alloc (.cells #[.bool b', .slice p2 n2 c2, .slice p3 n3 c3] 29)) #[.bool false, .slice none 0 0, .slice none 0 0] 29
    rwa [size_alloc, size_alloc] at this
  have Hrz := hid rz
  clear rz
  have HS : Hid (∀ w', Below W0.heap.size W0 w' → w'.cell? ⟨w.heap.size, 0, none⟩ = some (.bool b) ∧ w'.cell? ⟨w.heap.size, 1, none⟩ = some (.slice p0 n0 c0) ∧ w'.cell? ⟨w.heap.size, 2, none⟩ = some (.slice p1 n1 c1) ∧
      w'.cell? ⟨w.heap.size + 1, 0, none⟩ = some (.bool b') ∧ w'.cell? ⟨w.heap.size + 1, 1, none⟩ = some (.slice p2 n2 c2) ∧ w'.cell? ⟨w.heap.size + 1, 2, none⟩ = some (.slice p3 n3 c3)) := by
    intro w' hb
    have xa := cells3 (ra.below hb)
    have xb := cells3 (rb.below hb)
    exact ⟨xa.1, xa.2.1, xa.2.2, xb.1, xb.2.1, xb.2.2⟩
  have HPA := hid (HPA.out.below bw); have HPB := hid (HPB.out.below bw); have HRA := hid (HRA.out.below bw); have HRB := hid (HRB.out.below bw); have Hbw := hid bw
  clear hW ra rb bw
  refine wp_region_facts (w0 := W0) 6 1 [7, 8, 9, 10, 11, 5] [undef, undef, undef, undef, undef, undef]
    (fun i => match i with | 0 => eqF (.pointer (some ⟨w.heap.size, 0, none⟩)) | 1 => eqF (.agg #[.bool b, .slice p0 n0 c0]) | 2 => eqF (.agg #[.bool b', .slice p2 n2 c2, .slice p3 n3 c3]) | 3 => intF (dn s) | 4 => intF (p * dn s) | _ => varF W0.heap.size) [5] (by kernel_rfl) (by kernel_rfl) (by kernel_rfl) (by kernel_rfl) (by decide) rfl (by kernel_rfl) rfl (by simp) ?he14 ?_ ?_ ?_
  case he14 => simp only [putAll, Act.put, List.setIfInBounds_toArray, List.set_cons_zero, List.set_cons_succ]
  · intro i hi v w' h
    simp only [List.mem_cons, List.not_mem_nil, or_false] at hi
    rcases hi with rfl
    · obtain ⟨g, hg, hp, -⟩ := (show (varF W0.heap.size).P v w' from h); exact ⟨g, hg, hp.lt⟩
  · intro i o hi ho vs wx hvl hb hdep K hK
    have hvs := len6 hvl
    obtain ⟨s7, s8, s9, s10, s11, s5, rfl⟩ := hvs
    clear hvl
    have hk := HS.out wx hb
    go_split_ands
    rcases i with _ | _ | _ | _ | _ | _ | i
    all_goals (simp only [List.getElem?_toArray, List.getElem?_cons_zero, List.getElem?_cons_succ, Option.some.injEq] at ho)
    all_goals try (subst ho)
    all_goals try simp only [putAll, Act.put, List.setIfInBounds_toArray, List.set_cons_zero, List.set_cons_succ]
    · go_simp
      have hK' := hK.out
      simp only [putAll, Act.put, List.setIfInBounds_toArray, List.set_cons_zero, List.set_cons_succ] at hK'
      exact hK' _ _ rfl (Below.refl _ _) (by simp)
    · have e0 : s7 = _ := hdep ⟨0, .data⟩ (by simp) rfl
      subst e0
      go_simp
      have hK' := hK.out
      simp only [putAll, Act.put, List.setIfInBounds_toArray, List.set_cons_zero, List.set_cons_succ] at hK'
      exact hK' _ _ rfl (Below.refl _ _) (by simp)
    · go_simp
      have hK' := hK.out
      simp only [putAll, Act.put, List.setIfInBounds_toArray, List.set_cons_zero, List.set_cons_succ] at hK'
      exact hK' _ _ rfl (Below.refl _ _) (by simp)
    · have e2 : s9 = _ := hdep ⟨2, .data⟩ (by simp) rfl
      subst e2
      go_simp
      refine (Den_any _ r s _ (HRB.out.below hb) (by omega)).mono ?_
      rintro e wy ⟨vy, rfl, iy, hby⟩
      have hsh := iy.parts'
      obtain ⟨q5, p5, n5, c5, rfl, iy⟩ := hsh
      go_wp2_with fail
      have hK' := hK.out
      simp only [putAll, Act.put, List.setIfInBounds_toArray, List.set_cons_zero, List.set_cons_succ] at hK'
      exact hK' _ _ ⟨_, _, _, _, rfl, iy⟩ hby (by simp)
    · have e1 : s8 = _ := hdep ⟨1, .data⟩ (by simp) rfl
      subst e1
      have e3 : (intF (dn s)).P s10 wx := hdep ⟨3, .data⟩ (by simp) rfl
      obtain ⟨da3, pa3, na3, ca3, rfl, ia3⟩ := e3
      go_simp
      refine (RMul_any _ _ p (dn s) _ (HPA.out.below hb) (ia3.raw (by omega)) (by omega) (by omega)).mono ?_
      rintro e wy ⟨vy, rfl, iy, hby⟩
      have hsh := iy.parts'
      obtain ⟨q5, p5, n5, c5, rfl, iy⟩ := hsh
      go_wp2_with fail
      have hK' := hK.out
      simp only [putAll, Act.put, List.setIfInBounds_toArray, List.set_cons_zero, List.set_cons_succ] at hK'
      exact hK' _ _ ⟨_, _, _, _, rfl, iy⟩ hby (by simp)
    · go_simp
      have hK' := hK.out
      simp only [putAll, Act.put, List.setIfInBounds_toArray, List.set_cons_zero, List.set_cons_succ] at hK'
      exact hK' _ _ ⟨_, rfl, Pair.new .., hb.size⟩ (below1 _ _) (fun _ => rfl)
    · omega
  · intro vs wx hvl hb hf hdist
    have hvs := len6 hvl
    obtain ⟨s7, s8, s9, s10, s11, s5, rfl⟩ := hvs
    have f10 : (intF (p * dn s)).P s11 wx := hf 4 (by decide)
    have f11 : VarAt wx W0.heap.size s5 := hf 5 (by decide)
    obtain ⟨d7, p7, m7, c7, rfl, i7⟩ := f10
    obtain ⟨g5, rfl, hp7, hB7⟩ := f11
    have c7x := hp7.cells
    obtain ⟨_, _, q0, q1, q2, q3⟩ := c7x
    clear hf hdist hvl
    refine wpAny_one (i := 6) (by kernel_rfl) rfl ?_
    intro K hK
    simp only [putAll, Act.put, List.setIfInBounds_toArray, List.set_cons_zero, List.set_cons_succ]
    go_simp
    have hK' := hK.out
    apply hK'
    clear hK hK'
    have xg5 := hid (IntCell.put hp7 i7)
    have hbg5 := hid (Below.stored hb hB7 (.bool d7) (.slice p7 m7 c7))
    clear q0 q1 q2 q3 hp7 i7 hb
    generalize ((wx.setCell ⟨g5, 0, none⟩ (.bool d7)).setCell ⟨g5, 1, none⟩ (.slice p7 m7 c7)) = wd1 at *
    refine wpAny_done (by kernel_rfl) ?_ _
    have Hrz := hid (Hrz.out.below hbg5.out)
    have Hbw := hid (Hbw.out.trans (hbg5.out.mono (B' := w.heap.size) Hbw.out.size))
    have HRA := hid (HRA.out.below hbg5.out); have HRB := hid (HRB.out.below hbg5.out)
    have HPA := hid (HPA.out.below hbg5.out); have HPB := hid (HPB.out.below hbg5.out)
    have HS := hid (fun w' (hb : Below wd1.heap.size wd1 w') => HS.out w' (Below.go hb hbg5.out))
    clear hbg5
    go_upto_region 2 with fail
    refine wp_region_facts (w0 := wd1) 6 1 [12, 13, 14, 15, 16, 6] [undef, undef, undef, undef, undef, undef]
      (fun i => match i with | 0 => eqF (.pointer (some ⟨w.heap.size + 1, 0, none⟩)) | 1 => eqF (.agg #[.bool b', .slice p2 n2 c2]) | 2 => eqF (.agg #[.bool b, .slice p0 n0 c0, .slice p1 n1 c1]) | 3 => intF (dn q) | 4 => intF (r * dn q) | _ => varF wd1.heap.size) [5] (by kernel_rfl) (by kernel_rfl) (by kernel_rfl) (by kernel_rfl) (by decide) rfl (by kernel_rfl) rfl (by simp) ?he13 ?_ ?_ ?_
    case he13 => simp only [putAll, Act.put, List.setIfInBounds_toArray, List.set_cons_zero, List.set_cons_succ]
    · intro i hi v w' h
      simp only [List.mem_cons, List.not_mem_nil, or_false] at hi
      rcases hi with rfl
      · obtain ⟨g, hg, hp, -⟩ := (show (varF wd1.heap.size).P v w' from h); exact ⟨g, hg, hp.lt⟩
    · intro i o hi ho vs wx hvl hb hdep K hK
      have hvs := len6 hvl
      obtain ⟨s12, s13, s14, s15, s16, s6, rfl⟩ := hvs
      clear hvl
      have hk := HS.out wx hb
      go_split_ands
      rcases i with _ | _ | _ | _ | _ | _ | i
      all_goals (simp only [List.getElem?_toArray, List.getElem?_cons_zero, List.getElem?_cons_succ, Option.some.injEq] at ho)
      all_goals try (subst ho)
      all_goals try simp only [putAll, Act.put, List.setIfInBounds_toArray, List.set_cons_zero, List.set_cons_succ]
      · go_simp
        have hK' := hK.out
        simp only [putAll, Act.put, List.setIfInBounds_toArray, List.set_cons_zero, List.set_cons_succ] at hK'
        exact hK' _ _ rfl (Below.refl _ _) (by simp)
      · have e0 : s12 = _ := hdep ⟨0, .data⟩ (by simp) rfl
        subst e0
        go_simp
        have hK' := hK.out
        simp only [putAll, Act.put, List.setIfInBounds_toArray, List.set_cons_zero, List.set_cons_succ] at hK'
        exact hK' _ _ rfl (Below.refl _ _) (by simp)
      · go_simp
        have hK' := hK.out
        simp only [putAll, Act.put, List.setIfInBounds_toArray, List.set_cons_zero, List.set_cons_succ] at hK'
        exact hK' _ _ rfl (Below.refl _ _) (by simp)
      · have e2 : s14 = _ := hdep ⟨2, .data⟩ (by simp) rfl
        subst e2
        go_simp
        refine (Den_any _ p q _ (HRA.out.below hb) (by omega)).mono ?_
        rintro e wy ⟨vy, rfl, iy, hby⟩
        have hsh := iy.parts'
        obtain ⟨q5, p5, n5, c5, rfl, iy⟩ := hsh
        go_wp2_with fail
        have hK' := hK.out
        simp only [putAll, Act.put, List.setIfInBounds_toArray, List.set_cons_zero, List.set_cons_succ] at hK'
        exact hK' _ _ ⟨_, _, _, _, rfl, iy⟩ hby (by simp)
      · have e1 : s13 = _ := hdep ⟨1, .data⟩ (by simp) rfl
        subst e1
        have e3 : (intF (dn q)).P s15 wx := hdep ⟨3, .data⟩ (by simp) rfl
        obtain ⟨da3, pa3, na3, ca3, rfl, ia3⟩ := e3
        go_simp
        refine (RMul_any _ _ r (dn q) _ (HPB.out.below hb) (ia3.raw (by omega)) (by omega) (by omega)).mono ?_
        rintro e wy ⟨vy, rfl, iy, hby⟩
        have hsh := iy.parts'
        obtain ⟨q5, p5, n5, c5, rfl, iy⟩ := hsh
        go_wp2_with fail
        have hK' := hK.out
        simp only [putAll, Act.put, List.setIfInBounds_toArray, List.set_cons_zero, List.set_cons_succ] at hK'
        exact hK' _ _ ⟨_, _, _, _, rfl, iy⟩ hby (by simp)
      · go_simp
        have hK' := hK.out
        simp only [putAll, Act.put, List.setIfInBounds_toArray, List.set_cons_zero, List.set_cons_succ] at hK'
        exact hK' _ _ ⟨_, rfl, Pair.new .., hb.size⟩ (below1 _ _) (fun _ => rfl)
      · omega
    · intro vs wx hvl hb hf hdist
      have hvs := len6 hvl
      obtain ⟨s12, s13, s14, s15, s16, s6, rfl⟩ := hvs
      have f10 : (intF (r * dn q)).P s16 wx := hf 4 (by decide)
      have f11 : VarAt wx wd1.heap.size s6 := hf 5 (by decide)
      obtain ⟨d7, p7, m7, c7, rfl, i7⟩ := f10
      obtain ⟨g6, rfl, hp7, hB7⟩ := f11
      have c7x := hp7.cells
      obtain ⟨_, _, q0, q1, q2, q3⟩ := c7x
      clear hf hdist hvl
      refine wpAny_one (i := 6) (by kernel_rfl) rfl ?_
      intro K hK
      simp only [putAll, Act.put, List.setIfInBounds_toArray, List.set_cons_zero, List.set_cons_succ]
      go_simp
      have hK' := hK.out
      apply hK'
      clear hK hK'
      have xg6 := hid (IntCell.put hp7 i7)
      have hbg6 := hid (Below.stored hb hB7 (.bool d7) (.slice p7 m7 c7))
      clear q0 q1 q2 q3 hp7 i7 hb
      generalize ((wx.setCell ⟨g6, 0, none⟩ (.bool d7)).setCell ⟨g6, 1, none⟩ (.slice p7 m7 c7)) = wd2 at *
      refine wpAny_done (by kernel_rfl) ?_ _
      have Hrz := hid (Hrz.out.below hbg6.out)
      have Hbw := hid (Hbw.out.trans (hbg6.out.mono (B' := w.heap.size) Hbw.out.size))
      have HRA := hid (HRA.out.below hbg6.out); have HRB := hid (HRB.out.below hbg6.out)
      have HPA := hid (HPA.out.below hbg6.out); have HPB := hid (HPB.out.below hbg6.out)
      have HS := hid (fun w' (hb : Below wd2.heap.size wd2 w') => HS.out w' (Below.go hb hbg6.out))
      have xg5 := hid (xg5.out.below hbg6.out)
      clear hbg6
      go_upto_region 3 with fail
      refine wp_region_facts (w0 := wd2) 9 1 [17, 18, 19, 20, 21, 22, 23, 24, 25] [undef, undef, undef, undef, undef, undef, undef, undef, undef]
        (fun i => match i with | 0 => intF (p * dn s) | 1 => intF (r * dn q) | 2 => intF (p * dn s + r * dn q) | 3 => eqF (.agg #[.bool b, .slice p0 n0 c0, .slice p1 n1 c1]) | 4 => intF (dn q) | 5 => eqF (.agg #[.bool b', .slice p2 n2 c2, .slice p3 n3 c3]) | 6 => intF (dn s) | 7 => intF (dn q * dn s) | _ => ratF (Rat.divInt (p * dn s + r * dn q) (dn q * dn s))) [] (by kernel_rfl) (by kernel_rfl) (by kernel_rfl) (by kernel_rfl) (by decide) rfl (by kernel_rfl) rfl (by simp) ?he12 ?_ ?_ ?_
      case he12 => simp only [putAll, Act.put, List.setIfInBounds_toArray, List.set_cons_zero, List.set_cons_succ]
      · intro i hi; simp at hi
      · intro i o hi ho vs wx hvl hb hdep K hK
        have hvs := len9 hvl
        obtain ⟨s17, s18, s19, s20, s21, s22, s23, s24, s25, rfl⟩ := hvs
        clear hvl
        have hk := HS.out wx hb
        go_split_ands
        rcases i with _ | _ | _ | _ | _ | _ | _ | _ | _ | i
        all_goals (simp only [List.getElem?_toArray, List.getElem?_cons_zero, List.getElem?_cons_succ, Option.some.injEq] at ho)
        all_goals try (subst ho)
        all_goals try simp only [putAll, Act.put, List.setIfInBounds_toArray, List.set_cons_zero, List.set_cons_succ]
        · have hc := xg5.out.below hb
          obtain ⟨d5, p5, m5, c5, z5, i5⟩ := hc
          have z5' := two_cells z5
          obtain ⟨x50, x51, -, -⟩ := z5'
          go_simp
          have hK' := hK.out
          simp only [putAll, Act.put, List.setIfInBounds_toArray, List.set_cons_zero, List.set_cons_succ] at hK'
          exact hK' _ _ ⟨_, _, _, _, rfl, i5⟩ (Below.refl _ _) (by simp)
        · have hc := xg6.out.below hb
          obtain ⟨d5, p5, m5, c5, z5, i5⟩ := hc
          have z5' := two_cells z5
          obtain ⟨x50, x51, -, -⟩ := z5'
          go_simp
          have hK' := hK.out
          simp only [putAll, Act.put, List.setIfInBounds_toArray, List.set_cons_zero, List.set_cons_succ] at hK'
          exact hK' _ _ ⟨_, _, _, _, rfl, i5⟩ (Below.refl _ _) (by simp)
        · have e0 : (intF (p * dn s)).P s17 wx := hdep ⟨0, .data⟩ (by simp) rfl
          obtain ⟨da0, pa0, na0, ca0, rfl, ia0⟩ := e0
          have e1 : (intF (r * dn q)).P s18 wx := hdep ⟨1, .data⟩ (by simp) rfl
          obtain ⟨da1, pa1, na1, ca1, rfl, ia1⟩ := e1
          go_simp
          refine (RAdd_any _ _ _ _ _ (ia0.raw (by have := la.out; omega)) (ia1.raw (by have := lb.out; omega))).mono ?_
          rintro e wy ⟨vy, rfl, iy, hby⟩
          have hsh := iy.parts'
          obtain ⟨q5, p5, n5, c5, rfl, iy⟩ := hsh
          go_wp2_with fail
          have hK' := hK.out
          simp only [putAll, Act.put, List.setIfInBounds_toArray, List.set_cons_zero, List.set_cons_succ] at hK'
          exact hK' _ _ ⟨_, _, _, _, rfl, iy⟩ hby (by simp)
        · go_simp
          have hK' := hK.out
          simp only [putAll, Act.put, List.setIfInBounds_toArray, List.set_cons_zero, List.set_cons_succ] at hK'
          exact hK' _ _ rfl (Below.refl _ _) (by simp)
        · have e3 : s20 = _ := hdep ⟨3, .data⟩ (by simp) rfl
          subst e3
          go_simp
          refine (Den_any _ p q _ (HRA.out.below hb) (by omega)).mono ?_
          rintro e wy ⟨vy, rfl, iy, hby⟩
          have hsh := iy.parts'
          obtain ⟨q5, p5, n5, c5, rfl, iy⟩ := hsh
          go_wp2_with fail
          have hK' := hK.out
          simp only [putAll, Act.put, List.setIfInBounds_toArray, List.set_cons_zero, List.set_cons_succ] at hK'
          exact hK' _ _ ⟨_, _, _, _, rfl, iy⟩ hby (by simp)
        · go_simp
          have hK' := hK.out
          simp only [putAll, Act.put, List.setIfInBounds_toArray, List.set_cons_zero, List.set_cons_succ] at hK'
          exact hK' _ _ rfl (Below.refl _ _) (by simp)
        · have e5 : s22 = _ := hdep ⟨5, .data⟩ (by simp) rfl
          subst e5
          go_simp
          refine (Den_any _ r s _ (HRB.out.below hb) (by omega)).mono ?_
          rintro e wy ⟨vy, rfl, iy, hby⟩
          have hsh := iy.parts'
          obtain ⟨q5, p5, n5, c5, rfl, iy⟩ := hsh
          go_wp2_with fail
          have hK' := hK.out
          simp only [putAll, Act.put, List.setIfInBounds_toArray, List.set_cons_zero, List.set_cons_succ] at hK'
          exact hK' _ _ ⟨_, _, _, _, rfl, iy⟩ hby (by simp)
        · have e4 : (intF (dn q)).P s21 wx := hdep ⟨4, .data⟩ (by simp) rfl
          obtain ⟨da4, pa4, na4, ca4, rfl, ia4⟩ := e4
          have e6 : (intF (dn s)).P s23 wx := hdep ⟨6, .data⟩ (by simp) rfl
          obtain ⟨da6, pa6, na6, ca6, rfl, ia6⟩ := e6
          go_simp
          refine (RMul_any _ _ (dn q) (dn s) _ (ia4.raw (by omega)) (ia6.raw (by omega)) (by omega) (by omega)).mono ?_
          rintro e wy ⟨vy, rfl, iy, hby⟩
          have hsh := iy.parts'
          obtain ⟨q5, p5, n5, c5, rfl, iy⟩ := hsh
          go_wp2_with fail
          have hK' := hK.out
          simp only [putAll, Act.put, List.setIfInBounds_toArray, List.set_cons_zero, List.set_cons_succ] at hK'
          exact hK' _ _ ⟨_, _, _, _, rfl, iy⟩ hby (by simp)
        · have e2 : (intF (p * dn s + r * dn q)).P s19 wx := hdep ⟨2, .data⟩ (by simp) rfl
          obtain ⟨da2, pa2, na2, ca2, rfl, ia2⟩ := e2
          have e7 : (intF (dn q * dn s)).P s24 wx := hdep ⟨7, .data⟩ (by simp) rfl
          obtain ⟨da7, pa7, na7, ca7, rfl, ia7⟩ := e7
          go_simp
          refine (Make_any _ _ (p * dn s + r * dn q) (dn q * dn s) _ (ia2.raw (by have := ld.out; omega)) (ia7.raw (by have := lc.out; omega)) Hne.out (by have := ld.out; omega) (by have := lc.out; omega)).mono ?_
          rintro e wy ⟨vy, rfl, iy, hby⟩
          obtain ⟨e1, e2, e3, e4, e5, e6, e7, rfl, iy0, iy1⟩ := iy
          go_wp2_with fail
          have hK' := hK.out
          simp only [putAll, Act.put, List.setIfInBounds_toArray, List.set_cons_zero, List.set_cons_succ] at hK'
          exact hK' _ _ ⟨_, _, _, _, _, _, _, rfl, iy0, iy1⟩ hby (by simp)
        · omega
      · intro vs wx hvl hb hf hdist
        have hvs := len9 hvl
        obtain ⟨s17, s18, s19, s20, s21, s22, s23, s24, s25, rfl⟩ := hvs
        have f8 : RatTold wx s25 (Rat.divInt (p * dn s + r * dn q) (dn q * dn s)) := hf 8 (by decide)
        obtain ⟨e11, e12, e13, e14, e15, e16, e17, rfl, i1, i2⟩ := f8
        have rz := Hrz.out.below hb
        have xz := cells3 rz
        obtain ⟨z0, z1, z2⟩ := xz
        have fz := frozen4 rz
        obtain ⟨fz0, fz1, fz2, -⟩ := fz
        clear hf hdist hvl
        refine wpAny_one (i := 9) (by kernel_rfl) rfl ?_
        intro K hK
        simp only [putAll, Act.put, List.setIfInBounds_toArray, List.set_cons_zero, List.set_cons_succ]
        go_simp
        have hK' := hK.out
        apply hK'
        clear hK hK'
        have m := put3 rz (by simp [nonInt]) (.bool e11) (.slice e12 e13 e14) (.slice e15 e16 e17) (by simp [nonInt])
        have j1 := m.2.int _ _ i1; have j2 := m.2.int _ _ i2
        have jb := m.2.bel w.heap.size w (by omega) (Hbw.out.trans (hb.mono (B' := w.heap.size) Hbw.out.size))
        have xm := cells3 m.1
        clear m rz z0 z1 z2 fz0 fz1 fz2 i1 i2
        generalize (((wx.setCell ⟨w.heap.size + 1 + 1, 0, none⟩ (.bool e11)).setCell ⟨w.heap.size + 1 + 1, 1, none⟩ (.slice e12 e13 e14)).setCell ⟨w.heap.size + 1 + 1, 2, none⟩ (.slice e15 e16 e17)) = wz at *
        obtain ⟨z0, z1, z2⟩ := xm
        refine wpAny_done (by kernel_rfl) ?_ _
        go_wp2
        exact bodyPost_ret (v := .agg #[.bool e11, .slice e12 e13 e14, .slice e15 e16 e17]) (by simp [results, Try.results18, go_sem, z0, z1, z2]) rfl ⟨_, rfl, ⟨_, _, _, _, _, _, _, rfl, j1, j2⟩, jb⟩

theorem RAdd2_in {w : World} {v0 v1 : Value} {x y : Rat} (h0 : QIn w v0 x 400) (h1 : QIn w v1 y 400) : Calls Try.prog 18 #[v0, v1] w (RRat (x + y) w) := by
  obtain ⟨p, q, a, rfl, l0, l1⟩ := h0
  obtain ⟨r, s, b, rfl, l2, l3⟩ := h1
  exact RAdd2_any _ _ p q r s w a b l0 l1 l2 l3
end Go.Proofs.Yteiniokddopacaa
/- elenchusref02's Sub. -/
namespace Go.Proofs.Yteiniokddopacaa
open Go.RowKit Big

set_option maxRecDepth 100000 in
set_option maxHeartbeats 3200000 in
theorem RSub2_in {w : World} {v0 v1 : Value} {x y : Rat} (h0 : QIn w v0 x 400) (h1 : QIn w v1 y 400) : Calls Try.prog 20 #[v0, v1] w (RRat (x - y) w) := by
  have hz := (h1.sz (by decide)).neg
  rw [Rat.sub_eq_add_neg]
  obtain ⟨p, q, h0, rfl, l0, l1⟩ := h0
  obtain ⟨r, s, h1, rfl, l2, l3⟩ := h1
  have HZ := hid hz
  clear hz
  obtain ⟨b, p0, n0, c0, p1, n1, c1, rfl, ha0, ha1⟩ := id h0
  obtain ⟨b', p2, n2, c2, p3, n3, c3, rfl, hb0, hb1⟩ := id h1
  have HRA := hid h0; have HRB := hid h1; have HPA := hid ha0; have HPB := hid hb0
  clear ha0 ha1 hb0 hb1 h0 h1
  go_enter Try.func20, Try.ntmps20
  go_upto_region 1 with fail
  generalize hW : World.alloc (World.alloc (World.alloc w _) _) _ = W0
  have bw : Below w.heap.size w W0 := by rw [← hW]; exact ((below1 _ _).alloc (by simp) _).alloc (by simp; omega) _
  have ra : Rec W0 w.heap.size 29 #[.bool b, .slice p0 n0 c0, .slice p1 n1 c1] := by
    rw [← hW]; exact ((Rec.new ..).below (below1 _ _)).below (below1 _ _)
  have rb : Rec W0 (w.heap.size + 1) 29 #[.bool b', .slice p2 n2 c2, .slice p3 n3 c3] := by
    rw [← hW]
    have := (Rec.new (w.alloc (.cells #[.bool b, .slice p0 n0 c0, .slice p1 n1 c1] 29)) #[.bool b', .slice p2 n2 c2, .slice p3 n3 c3] 29)
    rw [size_alloc] at this
    exact this.below (below1 _ _)
  have rz : Rec W0 (w.heap.size + 1 + 1) 29 #[.bool false, .slice none 0 0, .slice none 0 0] := by
    rw [← hW]
    have := Rec.new ((w.alloc (.cells #[.bool b, .slice p0 n0 c0, .slice p1 n1 c1] 29)).alloc (.cells #[.bool b', .slice p2 n2 c2, .slice p3 n3 c3] 29)) #[.bool false, .slice none 0 0, .slice none 0 0] 29
    rwa [size_alloc, size_alloc] at this
  have Hrz := hid rz
  clear rz
  have HS : Hid (∀ w', Below W0.heap.size W0 w' → w'.cell? ⟨w.heap.size, 0, none⟩ = some (.bool b) ∧ w'.cell? ⟨w.heap.size, 1, none⟩ = some (.slice p0 n0 c0) ∧ w'.cell? ⟨w.heap.size, 2, none⟩ = some (.slice p1 n1 c1) ∧
      w'.cell? ⟨w.heap.size + 1, 0, none⟩ = some (.bool b') ∧ w'.cell? ⟨w.heap.size + 1, 1, none⟩ = some (.slice p2 n2 c2) ∧ w'.cell? ⟨w.heap.size + 1, 2, none⟩ = some (.slice p3 n3 c3)) := by
    intro w' hb
    have xa := cells3 (ra.below hb)
    have xb := cells3 (rb.below hb)
    exact ⟨xa.1, xa.2.1, xa.2.2, xb.1, xb.2.1, xb.2.2⟩
  have HPA := hid (HPA.out.below bw); have HPB := hid (HPB.out.below bw); have HRA := hid (HRA.out.below bw); have HRB := hid (HRB.out.below bw); have Hbw := hid bw
  clear hW ra rb bw
  refine wp_region_facts (w0 := W0) 4 1 [5, 6, 7, 8] [undef, undef, undef, undef]
    (fun i => match i with | 0 => eqF (.agg #[.bool b, .slice p0 n0 c0, .slice p1 n1 c1]) | 1 => eqF (.agg #[.bool b', .slice p2 n2 c2, .slice p3 n3 c3]) | 2 => ratF (-(Rat.divInt r (dn s))) | _ => ratF (Rat.divInt p (dn q) + -(Rat.divInt r (dn s)))) [] (by kernel_rfl) (by kernel_rfl) (by kernel_rfl) (by kernel_rfl) (by decide) rfl (by kernel_rfl) rfl (by simp) ?he15 ?_ ?_ ?_
  case he15 => simp only [putAll, Act.put, List.setIfInBounds_toArray, List.set_cons_zero, List.set_cons_succ]
  · intro i hi; simp at hi
  · intro i o hi ho vs wx hvl hb hdep K hK
    have hvs := len4 hvl
    obtain ⟨s5, s6, s7, s8, rfl⟩ := hvs
    clear hvl
    have hk := HS.out wx hb
    go_split_ands
    rcases i with _ | _ | _ | _ | i
    all_goals (simp only [List.getElem?_toArray, List.getElem?_cons_zero, List.getElem?_cons_succ, Option.some.injEq] at ho)
    all_goals try (subst ho)
    all_goals try simp only [putAll, Act.put, List.setIfInBounds_toArray, List.set_cons_zero, List.set_cons_succ]
    · go_simp
      have hK' := hK.out
      simp only [putAll, Act.put, List.setIfInBounds_toArray, List.set_cons_zero, List.set_cons_succ] at hK'
      exact hK' _ _ rfl (Below.refl _ _) (by simp)
    · go_simp
      have hK' := hK.out
      simp only [putAll, Act.put, List.setIfInBounds_toArray, List.set_cons_zero, List.set_cons_succ] at hK'
      exact hK' _ _ rfl (Below.refl _ _) (by simp)
    · have e1 : s6 = _ := hdep ⟨1, .data⟩ (by simp) rfl
      subst e1
      go_simp
      refine (RNeg2_any _ r s _ (HRB.out.below hb) (by omega) (by omega)).mono ?_
      rintro e wy ⟨vy, rfl, iy, hby⟩
      obtain ⟨e1, e2, e3, e4, e5, e6, e7, rfl, iy0, iy1⟩ := iy
      go_wp2_with fail
      have hK' := hK.out
      simp only [putAll, Act.put, List.setIfInBounds_toArray, List.set_cons_zero, List.set_cons_succ] at hK'
      exact hK' _ _ ⟨_, _, _, _, _, _, _, rfl, iy0, iy1⟩ hby (by simp)
    · have e0 : s5 = _ := hdep ⟨0, .data⟩ (by simp) rfl
      subst e0
      have e2 : (ratF (-(Rat.divInt r (dn s)))).P s7 wx := hdep ⟨2, .data⟩ (by simp) rfl
      go_simp
      refine (RAdd2_in (x := Rat.divInt p (dn q)) (y := -(Rat.divInt r (dn s))) ⟨p, q, HRA.out.below hb, rfl, l0, l1⟩ (RatTold.qin e2 HZ.out (by decide))).mono ?_
      rintro e wy ⟨vy, rfl, iy, hby⟩
      obtain ⟨e1, e2, e3, e4, e5, e6, e7, rfl, iy0, iy1⟩ := iy
      go_wp2_with fail
      have hK' := hK.out
      simp only [putAll, Act.put, List.setIfInBounds_toArray, List.set_cons_zero, List.set_cons_succ] at hK'
      exact hK' _ _ ⟨_, _, _, _, _, _, _, rfl, iy0, iy1⟩ hby (by simp)
    · omega
  · intro vs wx hvl hb hf hdist
    have hvs := len4 hvl
    obtain ⟨s5, s6, s7, s8, rfl⟩ := hvs
    have f3 : RatTold wx s8 (Rat.divInt p (dn q) + -(Rat.divInt r (dn s))) := hf 3 (by decide)
    obtain ⟨e11, e12, e13, e14, e15, e16, e17, rfl, i1, i2⟩ := f3
    have rz := Hrz.out.below hb
    have xz := cells3 rz
    obtain ⟨z0, z1, z2⟩ := xz
    have fz := frozen4 rz
    obtain ⟨fz0, fz1, fz2, -⟩ := fz
    clear hf hdist hvl
    refine wpAny_one (i := 4) (by kernel_rfl) rfl ?_
    intro K hK
    simp only [putAll, Act.put, List.setIfInBounds_toArray, List.set_cons_zero, List.set_cons_succ]
    go_simp
    have hK' := hK.out
    apply hK'
    clear hK hK'
    have m := put3 rz (by simp [nonInt]) (.bool e11) (.slice e12 e13 e14) (.slice e15 e16 e17) (by simp [nonInt])
    have j1 := m.2.int _ _ i1; have j2 := m.2.int _ _ i2
    have jb := m.2.bel w.heap.size w (by omega) (Hbw.out.trans (hb.mono (B' := w.heap.size) Hbw.out.size))
    have xm := cells3 m.1
    clear m rz z0 z1 z2 fz0 fz1 fz2 i1 i2
    generalize (((wx.setCell ⟨w.heap.size + 1 + 1, 0, none⟩ (.bool e11)).setCell ⟨w.heap.size + 1 + 1, 1, none⟩ (.slice e12 e13 e14)).setCell ⟨w.heap.size + 1 + 1, 2, none⟩ (.slice e15 e16 e17)) = wz at *
    obtain ⟨z0, z1, z2⟩ := xm
    refine wpAny_done (by kernel_rfl) ?_ _
    go_wp2
    exact bodyPost_ret (v := .agg #[.bool e11, .slice e12 e13 e14, .slice e15 e16 e17]) (by simp [results, Try.results20, go_sem, z0, z1, z2]) rfl ⟨_, rfl, ⟨_, _, _, _, _, _, _, rfl, j1, j2⟩, jb⟩

end Go.Proofs.Yteiniokddopacaa
/- elenchusref02's Cmp. -/
namespace Go.Proofs.Yteiniokddopacaa
open Go.RowKit Big

set_option maxRecDepth 100000 in
set_option maxHeartbeats 1600000 in
theorem RCmp2_in {w : World} {v0 v1 : Value} {x y : Rat} (h0 : QIn w v0 x 400) (h1 : QIn w v1 y 400) : Calls Try.prog 22 #[v0, v1] w (RNum .i64 (cq x y) w) := by
  have hz := (h0.sz (by decide)).sub (h1.sz (by decide))
  have hz0 : ∀ z : Rat, z.num.sign = cq z 0 := fun z => by
    have := cq_sub z 0
    rwa [show z - 0 = z by grind] at this
  rw [← cq_sub, hz0]
  clear hz0
  have hsub := fun w' (hb : Below w.heap.size w w') => RSub2_in (h0.below hb) (h1.below hb)
  have HSub := hid hsub
  have HZ := hid hz
  clear hz hsub
  obtain ⟨p, q, h0, -, -, -⟩ := h0
  obtain ⟨r, s, h1, -, -, -⟩ := h1
  generalize x - y = z at *
  obtain ⟨b, p0, n0, c0, p1, n1, c1, rfl, ha0, ha1⟩ := id h0
  obtain ⟨b', p2, n2, c2, p3, n3, c3, rfl, hb0, hb1⟩ := id h1
  have HRA := hid h0; have HRB := hid h1
  clear ha0 ha1 hb0 hb1 h0 h1
  go_enter Try.func22, Try.ntmps22
  go_upto_region 1 with fail
  generalize hW : World.alloc (World.alloc w _) _ = W0
  have bw : Below w.heap.size w W0 := by rw [← hW]; exact (below1 _ _).alloc (by simp) _
  have ra : Rec W0 w.heap.size 29 #[.bool b, .slice p0 n0 c0, .slice p1 n1 c1] := by
    rw [← hW]; exact ((Rec.new ..).below (below1 _ _))
  have rb : Rec W0 (w.heap.size + 1) 29 #[.bool b', .slice p2 n2 c2, .slice p3 n3 c3] := by
    rw [← hW]
    have := (Rec.new (w.alloc (.cells #[.bool b, .slice p0 n0 c0, .slice p1 n1 c1] 29)) #[.bool b', .slice p2 n2 c2, .slice p3 n3 c3] 29)
    rw [size_alloc] at this
    exact this
  have HS : Hid (∀ w', Below W0.heap.size W0 w' → w'.cell? ⟨w.heap.size, 0, none⟩ = some (.bool b) ∧ w'.cell? ⟨w.heap.size, 1, none⟩ = some (.slice p0 n0 c0) ∧ w'.cell? ⟨w.heap.size, 2, none⟩ = some (.slice p1 n1 c1) ∧
      w'.cell? ⟨w.heap.size + 1, 0, none⟩ = some (.bool b') ∧ w'.cell? ⟨w.heap.size + 1, 1, none⟩ = some (.slice p2 n2 c2) ∧ w'.cell? ⟨w.heap.size + 1, 2, none⟩ = some (.slice p3 n3 c3)) := by
    intro w' hb
    have xa := cells3 (ra.below hb)
    have xb := cells3 (rb.below hb)
    exact ⟨xa.1, xa.2.1, xa.2.2, xb.1, xb.2.1, xb.2.2⟩
  have HRA := hid (HRA.out.below bw); have HRB := hid (HRB.out.below bw); have Hbw := hid bw
  clear hW ra rb bw
  have hk := HS.out _ (Below.refl _ _)
  clear HS HRA HRB
  go_split_ands
  go_wp2_with fail
  refine (HSub.out _ Hbw.out).mono ?_
  rintro e w1 ⟨v1, rfl, i1, b1⟩
  have b01 := hid (Hbw.out.trans (b1.mono (B' := w.heap.size) Hbw.out.size))
  have hq := hid (RatTold.qin i1 HZ.out (by decide))
  obtain ⟨e1, e2, e3, e4, e5, e6, e7, rfl, -, -⟩ := i1
  clear b1
  go_wp2_with fail
  refine (RSign2_in hq.out).mono ?_
  rintro e w2 ⟨rfl, b2⟩
  have b02 := hid (b01.out.trans (b2.mono (B' := w.heap.size) b01.out.size))
  clear b2
  go_wp2_with fail
  go_ret
  exact ⟨rfl, b02.out⟩
end Go.Proofs.Yteiniokddopacaa
