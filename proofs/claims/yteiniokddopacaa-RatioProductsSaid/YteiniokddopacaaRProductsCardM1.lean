/- Texts put together: Ref2, Ref2Of, Ref2Ops, Ref2Quo, LawMakes, LawRProducts. -/
import Derived.Test.YteiniokddopacaaOrderCardM9
/- elenchusref02: Den, Make. -/
namespace Go.Proofs.Yteiniokddopacaa
open Go.RowKit Big

/-- block g is a variable that holds this whole number, in any form -/
def RawCell (w : World) (g : Nat) (z : Int) : Prop := ∃ d p n c, w.heap[g]? = some (.cells #[.bool d, .slice p n c] 25 (0, 0)) ∧ RawAt w (.agg #[.bool d, .slice p n c]) z
theorem RawCell.below {w w' : World} {g : Nat} {z : Int} (h : RawCell w g z) (hb : Below w.heap.size w w') : RawCell w' g z := by
  obtain ⟨d, p, n, c, h, hi⟩ := h
  exact ⟨d, p, n, c, (hb.block g (Array.getElem?_eq_some_iff.1 h).1).trans h, hi.below hb⟩
theorem RawCell.lt {w : World} {g : Nat} {z : Int} (h : RawCell w g z) : g < w.heap.size := by
  obtain ⟨d, p, n, c, h, -⟩ := h
  exact (Array.getElem?_eq_some_iff.1 h).1

set_option maxRecDepth 100000 in
set_option maxHeartbeats 3200000 in
theorem Make_any (v0 v1 : Value) (p q : Int) (w : World) (h0 : RawAt w v0 p) (h1 : RawAt w v1 q) (hq : q ≠ 0) (sp : sz W p.natAbs ≤ 1000) (sq : sz W q.natAbs ≤ 1000) :
    Calls Try.prog 16 #[v0, v1] w (RRat (Rat.divInt p q) w) := by
  obtain ⟨b, p0, n0, c0, rfl⟩ := h0.parts
  obtain ⟨b', p1, n1, c1, rfl⟩ := h1.parts
  have H0 := hid h0; have H1 := hid h1
  obtain ⟨x, hx⟩ : ∃ x, x = Rat.divInt p q := ⟨_, rfl⟩
  rw [← hx]
  have Hx := hid hx
  clear h0 h1 hx
  go_enter Try.func16, Try.ntmps16
  go_upto_region 1 with fail
  generalize hW : World.alloc (World.alloc (World.alloc w _) _) _ = W1a
  have bw : Below w.heap.size w W1a := by rw [← hW]; exact ((below1 _ _).alloc (by simp) _).alloc (by simp; omega) _
  have ra : Rec W1a w.heap.size 25 #[.bool b, .slice p0 n0 c0] := by
    rw [← hW]; exact ((Rec.new ..).below (below1 _ _)).below (below1 _ _)
  have rb : Rec W1a (w.heap.size + 1) 25 #[.bool b', .slice p1 n1 c1] := by
    rw [← hW]
    have := Rec.new (w.alloc (.cells #[.bool b, .slice p0 n0 c0] 25)) #[.bool b', .slice p1 n1 c1] 25
    rw [size_alloc] at this
    exact this.below (below1 _ _)
  have rz : Rec W1a (w.heap.size + 1 + 1) 29 #[.bool false, .slice none 0 0, .slice none 0 0] := by
    rw [← hW]
    have := Rec.new ((w.alloc (.cells #[.bool b, .slice p0 n0 c0] 25)).alloc (.cells #[.bool b', .slice p1 n1 c1] 25)) #[.bool false, .slice none 0 0, .slice none 0 0] 29
    rwa [size_alloc, size_alloc] at this
  have Ca : RawCell W1a w.heap.size p := ⟨_, _, _, _, ra, H0.out.below bw⟩
  have Cb : RawCell W1a (w.heap.size + 1) q := ⟨_, _, _, _, rb, H1.out.below bw⟩
  have xb0 := rb.cell 0; have xb1 := rb.cell 1
  simp only [List.getElem?_toArray, List.getElem?_cons_zero, List.getElem?_cons_succ] at xb0 xb1
  have Hsg := hid (RSign_any _ q W1a (H1.out.below bw))
  have HCa := hid Ca; have HCb := hid Cb; have Hrz := hid rz; have Hbw := hid bw
  clear hW ra rb rz bw Ca Cb H0 H1
  by_cases hneg : q < 0
  · rw [Int.sign_eq_neg_one_of_neg hneg] at Hsg
    have hqp := hid (show (0 : Int) < -q by omega)
    have spn : sz W (-p).natAbs ≤ 1000 := by rw [Int.natAbs_neg]; exact sp
    have sqn : sz W (-q).natAbs ≤ 1000 := by rw [Int.natAbs_neg]; exact sq
    have Hx : Hid (x = Rat.divInt (-p) (-q)) := by unfold Hid; rw [Rat.neg_divInt_neg]; exact Hx.out
    clear hneg hq sp sq
    go_wp2_with fail
    refine Hsg.out.mono ?_
    rintro e W3 ⟨rfl, b3⟩
    have Ca := HCa.out.below b3; have Cb := HCb.out.below b3; have rz := Hrz.out.below b3
    have b3' : Below w.heap.size w W3 := Hbw.out.trans (b3.mono (B' := w.heap.size) Hbw.out.size)
    clear b3 xb0 xb1 HCa HCb Hrz Hbw Hsg
    obtain ⟨d2, u2, n2, c2, e2, i2⟩ := id Ca
    have x2 := two_cells e2
    obtain ⟨x20, x21, f20, f21⟩ := x2
    have Hng := hid (RNeg_any _ p W3 i2)
    have HCb := hid Cb; have Hrz := hid rz; have Hb3 := hid b3'; have Hra := hid (show Rec W3 w.heap.size 25 #[.bool d2, .slice u2 n2 c2] from e2)
    clear Ca Cb rz b3' e2 i2
    go_wp2_with fail
    refine Hng.out.mono ?_
    rintro e W3b ⟨v3, rfl, i3, b3⟩
    have i3p := i3.parts'
    obtain ⟨d3, p3, n3, c3, rfl, i3⟩ := i3p
    have ra := Hra.out.below b3
    have y0 := ra.cell 0; have y1 := ra.cell 1
    simp only [List.getElem?_toArray, List.getElem?_cons_zero, List.getElem?_cons_succ] at y0 y1
    have fr := frozen4 ra
    obtain ⟨g0, g1, -, -⟩ := fr
    have m := put2 ra (by simp [nonInt]) (.bool d3) (.slice p3 n3 c3) (by simp [nonInt])
    have Ca : RawCell ((W3b.setCell ⟨w.heap.size, 0, none⟩ (.bool d3)).setCell ⟨w.heap.size, 1, none⟩ (.slice p3 n3 c3)) w.heap.size (-p) := ⟨_, _, _, _, m.1, (m.2.int _ _ i3).raw (by omega)⟩
    have Cb : RawCell ((W3b.setCell ⟨w.heap.size, 0, none⟩ (.bool d3)).setCell ⟨w.heap.size, 1, none⟩ (.slice p3 n3 c3)) (w.heap.size + 1) q := by
      obtain ⟨d, p', n', c', h, hi⟩ := HCb.out.below b3
      exact ⟨d, p', n', c', m.2.rcs _ _ _ (by omega) h, m.2.raw _ _ hi⟩
    have rz := m.2.rcs _ _ _ (show w.heap.size + 1 + 1 ≠ w.heap.size by omega) (Hrz.out.below b3)
    have b4 := m.2.bel w.heap.size w (Nat.le_refl _) (Hb3.out.trans (b3.mono (B' := w.heap.size) Hb3.out.size))
    clear m ra i3 b3 HCb Hrz Hb3 Hra Hng x20 x21 f20 f21
    go_upto_region 3 with fail
    generalize ((W3b.setCell ⟨w.heap.size, 0, none⟩ (.bool d3)).setCell ⟨w.heap.size, 1, none⟩ (.slice p3 n3 c3)) = W5a at *
    clear y0 y1 g0 g1
    obtain ⟨d2', u2', n2', c2', e2, i2⟩ := id Cb
    have x2 := two_cells e2
    obtain ⟨x20, x21, f20, f21⟩ := x2
    have Hng := hid (RNeg_any _ q W5a i2)
    have HCa := hid Ca; have Hrz := hid rz; have Hb3 := hid b4; have Hra := hid (show Rec W5a (w.heap.size + 1) 25 #[.bool d2', .slice u2' n2' c2'] from e2)
    clear Ca Cb rz b4 e2 i2
    go_wp2_with fail
    refine Hng.out.mono ?_
    rintro e W5b ⟨v3, rfl, i3, b3⟩
    have i3p := i3.parts'
    obtain ⟨d3', p3', n3', c3', rfl, i3⟩ := i3p
    have ra := Hra.out.below b3
    have y0 := ra.cell 0; have y1 := ra.cell 1
    simp only [List.getElem?_toArray, List.getElem?_cons_zero, List.getElem?_cons_succ] at y0 y1
    have fr := frozen4 ra
    obtain ⟨g0, g1, -, -⟩ := fr
    have m := put2 ra (by simp [nonInt]) (.bool d3') (.slice p3' n3' c3') (by simp [nonInt])
    have Cb : RawCell ((W5b.setCell ⟨w.heap.size + 1, 0, none⟩ (.bool d3')).setCell ⟨w.heap.size + 1, 1, none⟩ (.slice p3' n3' c3')) (w.heap.size + 1) (-q) := ⟨_, _, _, _, m.1, (m.2.int _ _ i3).raw (by omega)⟩
    have Ca : RawCell ((W5b.setCell ⟨w.heap.size + 1, 0, none⟩ (.bool d3')).setCell ⟨w.heap.size + 1, 1, none⟩ (.slice p3' n3' c3')) w.heap.size (-p) := by
      obtain ⟨d, p', n', c', h, hi⟩ := HCa.out.below b3
      exact ⟨d, p', n', c', m.2.rcs _ _ _ (by omega) h, m.2.raw _ _ hi⟩
    have rz := m.2.rcs _ _ _ (show w.heap.size + 1 + 1 ≠ w.heap.size + 1 by omega) (Hrz.out.below b3)
    have b4 := m.2.bel w.heap.size w (by omega) (Hb3.out.trans (b3.mono (B' := w.heap.size) Hb3.out.size))
    clear m ra i3 b3 HCa Hrz Hb3 Hra Hng x20 x21 f20 f21
    go_upto_region 4 with fail
    generalize ((W5b.setCell ⟨w.heap.size + 1, 0, none⟩ (.bool d3')).setCell ⟨w.heap.size + 1, 1, none⟩ (.slice p3' n3' c3')) = W4 at *
    clear y0 y1 g0 g1
    have hqp := hqp.out
    generalize -p = p' at *
    generalize -q = q' at *
    have sp := spn; have sq := sqn
    clear spn sqn
    have hq0 : q' ≠ 0 := by omega
    have hnum := low_num (p := p') hq0
    have hden := low_den (p := p') hq0
    have cg := lowBy_ne (p := p') hq0
    have hlb : ((Nat.gcd p'.natAbs q'.natAbs : Nat) : Int) = lowBy p' q' := by unfold lowBy; rw [if_neg (by omega)]
    have szc : sz W (lowBy p' q').natAbs ≤ 1000 := by
      rw [← hlb]
      exact Nat.le_trans (sz_mono W2 (by rw [Int.natAbs_natCast]; exact Nat.gcd_le_right _ (by omega))) sq
    obtain ⟨d2, u2, n2, c2, e2, i2⟩ := id Ca
    obtain ⟨d3, u3, n3, c3, e3, i3⟩ := id Cb
    have x2 := two_cells e2; have x3 := two_cells e3
    obtain ⟨x20, x21, -, -⟩ := x2
    obtain ⟨x30, x31, -, -⟩ := x3
    have hg := RGcd_any _ _ p' q' W4 i2 i3 (by omega) (by omega)
    rw [hlb] at hg
    generalize lowBy p' q' = c at *
    have Hg := hid hg; have HCa := hid Ca; have HCb := hid Cb; have Hrz := hid rz; have Hb4 := hid b4; have Hnum := hid hnum; have Hden := hid hden; have Hcg := hid cg
    clear hg Ca Cb rz b4 hnum hden cg hlb hq0 hqp i2 i3 e2 e3
    go_wp2_with fail
    refine Hg.out.mono ?_
    rintro e W5 ⟨v5, rfl, i5, b5⟩
    have i5p := i5.parts'
    obtain ⟨d5, p5, n5, c5, rfl, i5⟩ := i5p
    go_upto_region 5 with fail
    generalize hW : World.alloc W5 _ = W6
    have X6 : Below W5.heap.size W5 W6 ∧ IntCell W6 W5.heap.size c := by
      rw [← hW]; exact ⟨below1 _ _, _, _, _, _, heap_alloc_new W5 _, i5.below (below1 _ _)⟩
    have b46 : Below W4.heap.size W4 W6 := b5.trans (X6.1.mono (B' := W4.heap.size) b5.size)
    have Ca := HCa.out.below b46; have Cb := HCb.out.below b46; have rz := Hrz.out.below b46
    have b6 : Below w.heap.size w W6 := Hb4.out.trans (b46.mono (B' := w.heap.size) Hb4.out.size)
    have Cg := X6.2
    obtain ⟨gg, hgg⟩ : ∃ g, g = W5.heap.size := ⟨_, rfl⟩
    rw [← hgg] at Cg ⊢
    clear hW X6 b46 b5 i5 hgg x20 x21 x30 x31 Hg HCa HCb Hrz Hb4
    obtain ⟨d2, u2, n2, c2, e2, i2⟩ := id Ca
    obtain ⟨d5, u5, n5, c5, e5, i5⟩ := id Cg
    have x2 := two_cells e2; have x5 := two_cells e5
    obtain ⟨x20, x21, -, -⟩ := x2
    obtain ⟨x50, x51, -, -⟩ := x5
    have hdv := RDiv_any _ _ p' c W6 i2 (i5.raw (by omega)) Hcg.out (by omega) (by omega)
    have Hdv := hid hdv; have HCb := hid Cb; have HCg := hid Cg; have Hrz := hid rz; have Hb6 := hid b6
    clear hdv Ca Cb Cg rz b6 i2 i5 e2 e5
    go_wp2_with fail
    refine Hdv.out.mono ?_
    rintro e W7 ⟨vq, vr, rfl, hqq, hrr, b7⟩
    have hqq := hqq.parts'
    obtain ⟨dq, pq, nq, cq', rfl, hqq⟩ := hqq
    have hrr := hrr.parts'
    obtain ⟨dr, pr, nr, cr, rfl, -⟩ := hrr
    go_upto_region 6 with fail
    generalize hW : World.alloc (World.alloc W7 _) _ = W8
    have X8 : Below W7.heap.size W7 W8 ∧ Rec W8 W7.heap.size 25 #[.bool dq, .slice pq nq cq'] := by
      rw [← hW]; exact ⟨((Below.refl _ _).alloc (Nat.le_refl _) _).alloc (by simp) _, (Rec.new ..).below (below1 _ _)⟩
    have b68 : Below W6.heap.size W6 W8 := b7.trans (X8.1.mono (B' := W6.heap.size) b7.size)
    have k4 := X8.2
    have i4 := hqq.below X8.1
    have Cb := HCb.out.below b68; have Cg := HCg.out.below b68; have rz := Hrz.out.below b68
    have b8 : Below w.heap.size w W8 := Hb6.out.trans (b68.mono (B' := w.heap.size) Hb6.out.size)
    obtain ⟨g4, hg4⟩ : ∃ g, g = W7.heap.size := ⟨_, rfl⟩
    rw [← hg4] at k4 ⊢
    clear hW X8 b68 b7 hqq hg4 x20 x21 x50 x51 HCb HCg Hrz Hb6 Hdv
    obtain ⟨d3, u3, n3, c3, e3, i3⟩ := id Cb
    obtain ⟨d5', u5', n5', c5', e5, i5⟩ := id Cg
    have x3 := two_cells e3; have x5 := two_cells e5
    obtain ⟨x30, x31, -, -⟩ := x3
    obtain ⟨x50, x51, -, -⟩ := x5
    have hdv := RDiv_any _ _ q' c W8 i3 (i5.raw (by omega)) Hcg.out (by omega) (by omega)
    have Hdv := hid hdv; have Hrz := hid rz; have Hb8 := hid b8; have Hk4 := hid k4; have Hi4 := hid i4
    clear hdv Cb Cg rz b8 k4 i4 i3 i5 e3 e5
    go_wp2_with fail
    refine Hdv.out.mono ?_
    rintro e W9 ⟨vq, vr, rfl, hqq, hrr, b9⟩
    rw [Hden.out] at hqq
    have hqq := hqq.shape
    obtain ⟨pd, nd, cd, rfl, hqq⟩ := hqq
    have hrr := hrr.parts'
    obtain ⟨dr', pr', nr', cr', rfl, -⟩ := hrr
    have hneg : decide (((Rat.divInt p' q').den : Int) < 0) = false := decide_eq_false (by omega)
    rw [hneg] at hqq ⊢
    go_upto_region 7 with fail
    generalize hW : World.alloc (World.alloc W9 _) _ = W10
    have X10 : Below W9.heap.size W9 W10 ∧ Rec W10 W9.heap.size 25 #[.bool false, .slice pd nd cd] := by
      rw [← hW]; exact ⟨((Below.refl _ _).alloc (Nat.le_refl _) _).alloc (by simp) _, (Rec.new ..).below (below1 _ _)⟩
    have b810 : Below W8.heap.size W8 W10 := b9.trans (X10.1.mono (B' := W8.heap.size) b9.size)
    have k7 := X10.2
    have i7 := hqq.below X10.1
    have rz := Hrz.out.below b810; have k4 := Hk4.out.below b810; have i4 := Hi4.out.below b810
    have b10 : Below w.heap.size w W10 := Hb8.out.trans (b810.mono (B' := w.heap.size) Hb8.out.size)
    clear hW X10 b9 hqq b810 Hrz Hk4 Hi4 Hb8 Hdv hneg x30 x31 x50 x51
    have y0 := k4.cell 0; have y1 := k4.cell 1; have z1 := k7.cell 1
    simp only [List.getElem?_toArray, List.getElem?_cons_zero, List.getElem?_cons_succ] at y0 y1 z1
    have x := cells3 rz
    obtain ⟨x0, x1, x2⟩ := x
    have f := frozen4 rz
    obtain ⟨f0, f1, f2, -⟩ := f
    rw [Hnum.out] at i4
    have m2 := put3 rz (by simp [nonInt]) (.bool dq) (.slice pq nq cq') (.slice pd nd cd) (by simp [nonInt])
    have mi := hid (m2.2.int _ _ i4)
    have md := hid (m2.2.int _ _ i7)
    have mb := hid (m2.2.bel w.heap.size w (by omega) b10)
    clear m2 i4 i7 b10 rz k4 k7
    go_wp2
    exact bodyPost_ret (v := .agg #[.bool dq, .slice pq nq cq', .slice pd nd cd]) (by simp [results, Try.results16, go_sem, x0, x1, x2]) rfl ⟨_, rfl, ⟨_, _, _, _, _, _, _, rfl, by rw [Hx.out]; exact mi.out, by rw [Hx.out]; exact md.out⟩, mb.out⟩
  · rw [Int.sign_eq_one_of_pos (show 0 < q by omega)] at Hsg
    have Hqp := hid (show (0 : Int) < q by omega)
    clear hneg hq
    go_wp2_with fail
    refine Hsg.out.mono ?_
    rintro e W4 ⟨rfl, b3⟩
    have Ca := HCa.out.below b3; have Cb := HCb.out.below b3; have rz := Hrz.out.below b3
    have b4 : Below w.heap.size w W4 := Hbw.out.trans (b3.mono (B' := w.heap.size) Hbw.out.size)
    clear b3 xb0 xb1 HCa HCb Hrz Hbw Hsg
    have hqp := Hqp.out
    clear Hqp
    obtain ⟨p', hp'⟩ : ∃ p', p' = p := ⟨_, rfl⟩
    obtain ⟨q', hq'⟩ : ∃ q', q' = q := ⟨_, rfl⟩
    subst hp' hq'
    have hq0 : q' ≠ 0 := by omega
    have hnum := low_num (p := p') hq0
    have hden := low_den (p := p') hq0
    have cg := lowBy_ne (p := p') hq0
    have hlb : ((Nat.gcd p'.natAbs q'.natAbs : Nat) : Int) = lowBy p' q' := by unfold lowBy; rw [if_neg (by omega)]
    have szc : sz W (lowBy p' q').natAbs ≤ 1000 := by
      rw [← hlb]
      exact Nat.le_trans (sz_mono W2 (by rw [Int.natAbs_natCast]; exact Nat.gcd_le_right _ (by omega))) sq
    obtain ⟨d2, u2, n2, c2, e2, i2⟩ := id Ca
    obtain ⟨d3, u3, n3, c3, e3, i3⟩ := id Cb
    have x2 := two_cells e2; have x3 := two_cells e3
    obtain ⟨x20, x21, -, -⟩ := x2
    obtain ⟨x30, x31, -, -⟩ := x3
    have hg := RGcd_any _ _ p' q' W4 i2 i3 (by omega) (by omega)
    rw [hlb] at hg
    generalize lowBy p' q' = c at *
    have Hg := hid hg; have HCa := hid Ca; have HCb := hid Cb; have Hrz := hid rz; have Hb4 := hid b4; have Hnum := hid hnum; have Hden := hid hden; have Hcg := hid cg
    clear hg Ca Cb rz b4 hnum hden cg hlb hq0 hqp i2 i3 e2 e3
    go_wp2_with fail
    refine Hg.out.mono ?_
    rintro e W5 ⟨v5, rfl, i5, b5⟩
    have i5p := i5.parts'
    obtain ⟨d5, p5, n5, c5, rfl, i5⟩ := i5p
    go_upto_region 5 with fail
    generalize hW : World.alloc W5 _ = W6
    have X6 : Below W5.heap.size W5 W6 ∧ IntCell W6 W5.heap.size c := by
      rw [← hW]; exact ⟨below1 _ _, _, _, _, _, heap_alloc_new W5 _, i5.below (below1 _ _)⟩
    have b46 : Below W4.heap.size W4 W6 := b5.trans (X6.1.mono (B' := W4.heap.size) b5.size)
    have Ca := HCa.out.below b46; have Cb := HCb.out.below b46; have rz := Hrz.out.below b46
    have b6 : Below w.heap.size w W6 := Hb4.out.trans (b46.mono (B' := w.heap.size) Hb4.out.size)
    have Cg := X6.2
    obtain ⟨gg, hgg⟩ : ∃ g, g = W5.heap.size := ⟨_, rfl⟩
    rw [← hgg] at Cg ⊢
    clear hW X6 b46 b5 i5 hgg x20 x21 x30 x31 Hg HCa HCb Hrz Hb4
    obtain ⟨d2, u2, n2, c2, e2, i2⟩ := id Ca
    obtain ⟨d5, u5, n5, c5, e5, i5⟩ := id Cg
    have x2 := two_cells e2; have x5 := two_cells e5
    obtain ⟨x20, x21, -, -⟩ := x2
    obtain ⟨x50, x51, -, -⟩ := x5
    have hdv := RDiv_any _ _ p' c W6 i2 (i5.raw (by omega)) Hcg.out (by omega) (by omega)
    have Hdv := hid hdv; have HCb := hid Cb; have HCg := hid Cg; have Hrz := hid rz; have Hb6 := hid b6
    clear hdv Ca Cb Cg rz b6 i2 i5 e2 e5
    go_wp2_with fail
    refine Hdv.out.mono ?_
    rintro e W7 ⟨vq, vr, rfl, hqq, hrr, b7⟩
    have hqq := hqq.parts'
    obtain ⟨dq, pq, nq, cq', rfl, hqq⟩ := hqq
    have hrr := hrr.parts'
    obtain ⟨dr, pr, nr, cr, rfl, -⟩ := hrr
    go_upto_region 6 with fail
    generalize hW : World.alloc (World.alloc W7 _) _ = W8
    have X8 : Below W7.heap.size W7 W8 ∧ Rec W8 W7.heap.size 25 #[.bool dq, .slice pq nq cq'] := by
      rw [← hW]; exact ⟨((Below.refl _ _).alloc (Nat.le_refl _) _).alloc (by simp) _, (Rec.new ..).below (below1 _ _)⟩
    have b68 : Below W6.heap.size W6 W8 := b7.trans (X8.1.mono (B' := W6.heap.size) b7.size)
    have k4 := X8.2
    have i4 := hqq.below X8.1
    have Cb := HCb.out.below b68; have Cg := HCg.out.below b68; have rz := Hrz.out.below b68
    have b8 : Below w.heap.size w W8 := Hb6.out.trans (b68.mono (B' := w.heap.size) Hb6.out.size)
    obtain ⟨g4, hg4⟩ : ∃ g, g = W7.heap.size := ⟨_, rfl⟩
    rw [← hg4] at k4 ⊢
    clear hW X8 b68 b7 hqq hg4 x20 x21 x50 x51 HCb HCg Hrz Hb6 Hdv
    obtain ⟨d3, u3, n3, c3, e3, i3⟩ := id Cb
    obtain ⟨d5', u5', n5', c5', e5, i5⟩ := id Cg
    have x3 := two_cells e3; have x5 := two_cells e5
    obtain ⟨x30, x31, -, -⟩ := x3
    obtain ⟨x50, x51, -, -⟩ := x5
    have hdv := RDiv_any _ _ q' c W8 i3 (i5.raw (by omega)) Hcg.out (by omega) (by omega)
    have Hdv := hid hdv; have Hrz := hid rz; have Hb8 := hid b8; have Hk4 := hid k4; have Hi4 := hid i4
    clear hdv Cb Cg rz b8 k4 i4 i3 i5 e3 e5
    go_wp2_with fail
    refine Hdv.out.mono ?_
    rintro e W9 ⟨vq, vr, rfl, hqq, hrr, b9⟩
    rw [Hden.out] at hqq
    have hqq := hqq.shape
    obtain ⟨pd, nd, cd, rfl, hqq⟩ := hqq
    have hrr := hrr.parts'
    obtain ⟨dr', pr', nr', cr', rfl, -⟩ := hrr
    have hneg : decide (((Rat.divInt p' q').den : Int) < 0) = false := decide_eq_false (by omega)
    rw [hneg] at hqq ⊢
    go_upto_region 7 with fail
    generalize hW : World.alloc (World.alloc W9 _) _ = W10
    have X10 : Below W9.heap.size W9 W10 ∧ Rec W10 W9.heap.size 25 #[.bool false, .slice pd nd cd] := by
      rw [← hW]; exact ⟨((Below.refl _ _).alloc (Nat.le_refl _) _).alloc (by simp) _, (Rec.new ..).below (below1 _ _)⟩
    have b810 : Below W8.heap.size W8 W10 := b9.trans (X10.1.mono (B' := W8.heap.size) b9.size)
    have k7 := X10.2
    have i7 := hqq.below X10.1
    have rz := Hrz.out.below b810; have k4 := Hk4.out.below b810; have i4 := Hi4.out.below b810
    have b10 : Below w.heap.size w W10 := Hb8.out.trans (b810.mono (B' := w.heap.size) Hb8.out.size)
    clear hW X10 b9 hqq b810 Hrz Hk4 Hi4 Hb8 Hdv hneg x30 x31 x50 x51
    have y0 := k4.cell 0; have y1 := k4.cell 1; have z1 := k7.cell 1
    simp only [List.getElem?_toArray, List.getElem?_cons_zero, List.getElem?_cons_succ] at y0 y1 z1
    have x := cells3 rz
    obtain ⟨x0, x1, x2⟩ := x
    have f := frozen4 rz
    obtain ⟨f0, f1, f2, -⟩ := f
    rw [Hnum.out] at i4
    have m2 := put3 rz (by simp [nonInt]) (.bool dq) (.slice pq nq cq') (.slice pd nd cd) (by simp [nonInt])
    have mi := hid (m2.2.int _ _ i4)
    have md := hid (m2.2.int _ _ i7)
    have mb := hid (m2.2.bel w.heap.size w (by omega) b10)
    clear m2 i4 i7 b10 rz k4 k7
    go_wp2
    exact bodyPost_ret (v := .agg #[.bool dq, .slice pq nq cq', .slice pd nd cd]) (by simp [results, Try.results16, go_sem, x0, x1, x2]) rfl ⟨_, rfl, ⟨_, _, _, _, _, _, _, rfl, by rw [Hx.out]; exact mi.out, by rw [Hx.out]; exact md.out⟩, mb.out⟩
end Go.Proofs.Yteiniokddopacaa
/- ratio.Of, elenchusref02.Of, Den. -/
namespace Go.Proofs.Yteiniokddopacaa
open Go.RowKit Big

theorem divInt_one_num (p : Int) : (Rat.divInt p 1).num = p := by
  have := low_num (p := p) (q := 1) (by decide)
  rw [← this]
  have e : lowBy p 1 = 1 := by unfold lowBy; rw [if_neg (by decide)]; simp
  rw [e]; simp
theorem divInt_one_den (p : Int) : (Rat.divInt p 1).den = 1 := by
  have := low_den (p := p) (q := 1) (by decide)
  have e : lowBy p 1 = 1 := by unfold lowBy; rw [if_neg (by decide)]; simp
  rw [e] at this
  omega
set_option maxRecDepth 100000 in
set_option maxHeartbeats 1600000 in
theorem QOf_any (v : Value) (p : Int) (w : World) (h : RawAt w v p) : Calls Try.prog 13 #[v] w (RRat (Rat.divInt p 1) w) := by
  obtain ⟨b, p0, n0, c0, rfl⟩ := h.parts
  have H := hid h
  obtain ⟨x, hx⟩ : ∃ x, x = Rat.divInt p 1 := ⟨_, rfl⟩
  have hn : x.num = p := by rw [hx, divInt_one_num]
  have hd : x.den = 1 := by rw [hx, divInt_one_den]
  rw [← hx]
  have Hn := hid hn; have Hd := hid hd
  clear h hx hn hd
  go_enter Try.func13, Try.ntmps13
  go_wp2_with fail
  generalize hW : World.alloc (World.alloc w _) _ = W0
  have bw : Below w.heap.size w W0 := by rw [← hW]; exact (below1 _ _).alloc (by simp) _
  have rz : Rec W0 (w.heap.size + 1) 29 #[.bool false, .slice none 0 0, .slice none 0 0] := by
    rw [← hW]
    have := Rec.new (w.alloc (.cells #[.bool b, .slice p0 n0 c0] 25)) #[.bool false, .slice none 0 0, .slice none 0 0] 29
    rwa [size_alloc] at this
  clear hW
  have Hrz := hid rz; have Hbw := hid bw
  refine (Norm_any _ p W0 (H.out.below bw)).mono ?_
  clear rz bw
  rintro e w1 ⟨v1, rfl, i1, b1⟩
  have i1p := i1.parts'
  obtain ⟨d1, p1, n1, c1, rfl, i1⟩ := i1p
  have rz := (Hrz.out.below b1).below (below1 w1 (.cells #[.int .u64 1] 46))
  have bw := (Hbw.out.trans (b1.mono (B' := w.heap.size) Hbw.out.size)).trans ((below1 w1 (.cells #[.int .u64 1] 46)).mono (B' := w.heap.size) (Nat.le_trans Hbw.out.size b1.size))
  have i1 := i1.below (below1 w1 (.cells #[.int .u64 1] 46))
  have ha : At (w1.alloc (.cells #[.int .u64 1] 46)) .u64 (.slice (some ⟨w1.heap.size, 0, none⟩) 1 1) [1] := At.oneI _ _ _ 1 _ rfl
  have i2 : IntAt (w1.alloc (.cells #[.int .u64 1] 46)) (.agg #[.bool false, .slice (some ⟨w1.heap.size, 0, none⟩) 1 1]) ((1 : Nat) : Int) := ⟨_, rfl, by
    have e : dig W ((1 : Nat) : Int).natAbs = [1] := by decide +kernel
    rw [e]; exact ha⟩
  have xz := cells3 rz
  obtain ⟨z0, z1, z2⟩ := xz
  have fz := frozen4 rz
  obtain ⟨f0, f1, f2, -⟩ := fz
  have m := put3 rz (by simp [nonInt]) (.bool d1) (.slice p1 n1 c1) (.slice (some ⟨w1.heap.size, 0, none⟩) 1 1) (by simp [nonInt])
  have mi := hid (m.2.int _ _ i1); have md := hid (m.2.int _ _ i2)
  have mb := hid (m.2.bel w.heap.size w (by omega) bw)
  clear m rz bw i1 i2 ha b1 Hrz Hbw
  go_wp2
  exact bodyPost_ret (v := .agg #[.bool d1, .slice p1 n1 c1, .slice (some ⟨w1.heap.size, 0, none⟩) 1 1]) (by simp [results, Try.results13, go_sem, z0, z1, z2]) rfl ⟨_, rfl, ⟨_, _, _, _, _, _, _, rfl, by rw [Hn.out]; exact mi.out, by rw [Hd.out]; exact md.out⟩, mb.out⟩

set_option maxRecDepth 100000 in
set_option maxHeartbeats 1600000 in
theorem ROf2_any (v : Value) (p : Int) (w : World) (h : RawAt w v p) (sp : sz W p.natAbs ≤ 1000) : Calls Try.prog 14 #[v] w (RRat (Rat.divInt p 1) w) := by
  obtain ⟨b, p0, n0, c0, rfl⟩ := h.parts
  have H := hid h
  clear h
  go_enter Try.func14, Try.ntmps14
  go_upto_region 1 with fail
  generalize hW : World.alloc (World.alloc w _) _ = W0
  have bw : Below w.heap.size w W0 := by rw [← hW]; exact (below1 _ _).alloc (by simp) _
  have ra : Rec W0 w.heap.size 25 #[.bool b, .slice p0 n0 c0] := by rw [← hW]; exact (Rec.new ..).below (below1 _ _)
  have rz : Rec W0 (w.heap.size + 1) 29 #[.bool false, .slice none 0 0, .slice none 0 0] := by
    rw [← hW]
    have := Rec.new (w.alloc (.cells #[.bool b, .slice p0 n0 c0] 25)) #[.bool false, .slice none 0 0, .slice none 0 0] 29
    rwa [size_alloc] at this
  have Hrz := hid rz; have Hbw := hid bw; have HA := hid (H.out.below bw)
  have HS : Hid (∀ w', Below W0.heap.size W0 w' → w'.cell? ⟨w.heap.size, 0, none⟩ = some (.bool b) ∧ w'.cell? ⟨w.heap.size, 1, none⟩ = some (.slice p0 n0 c0)) := fun w' hb => ⟨(ra.below hb).cell 0, (ra.below hb).cell 1⟩
  clear hW ra rz bw
  refine wp_region_facts (w0 := W0) 3 1 [3, 4, 5] [undef, undef, undef]
    (fun i => match i with | 0 => eqF (.agg #[.bool b, .slice p0 n0 c0]) | 1 => intF 1 | _ => ratF (Rat.divInt p 1)) [] (by kernel_rfl) (by kernel_rfl) (by kernel_rfl) (by kernel_rfl) (by decide) rfl (by kernel_rfl) rfl (by simp) ?he9 ?_ ?_ ?_
  case he9 => simp only [putAll, Act.put, List.setIfInBounds_toArray, List.set_cons_zero, List.set_cons_succ]
  · intro i hi; simp at hi
  · intro i o hi ho vs wx hvl hb hdep K hK
    have hvs := len3 hvl
    obtain ⟨s3, s4, s5, rfl⟩ := hvs
    clear hvl
    have hk := HS.out wx hb
    go_split_ands
    rcases i with _ | _ | _ | i
    all_goals (simp only [List.getElem?_toArray, List.getElem?_cons_zero, List.getElem?_cons_succ, Option.some.injEq] at ho)
    all_goals try (subst ho)
    all_goals try simp only [putAll, Act.put, List.setIfInBounds_toArray, List.set_cons_zero, List.set_cons_succ]
    · go_simp
      have hK' := hK.out
      simp only [putAll, Act.put, List.setIfInBounds_toArray, List.set_cons_zero, List.set_cons_succ] at hK'
      exact hK' _ _ rfl (Below.refl _ _) (by simp)
    · go_simp
      refine (ROf_any 1 _ (by decide) (by decide)).mono ?_
      rintro e wy ⟨vy, rfl, iy, hby⟩
      have hsh := iy.parts'
      obtain ⟨q5, p5, n5, c5, rfl, iy⟩ := hsh
      go_wp2_with fail
      have hK' := hK.out
      simp only [putAll, Act.put, List.setIfInBounds_toArray, List.set_cons_zero, List.set_cons_succ] at hK'
      exact hK' _ _ ⟨_, _, _, _, rfl, iy⟩ hby (by simp)
    · have e0 : s3 = _ := hdep ⟨0, .data⟩ (by simp) rfl
      subst e0
      have e1 : (intF 1).P s4 wx := hdep ⟨1, .data⟩ (by simp) rfl
      obtain ⟨da1, pa1, na1, ca1, rfl, ia1⟩ := e1
      go_simp
      refine (Make_any _ _ p 1 _ (HA.out.below hb) (ia1.raw (by decide)) (by decide) sp (by decide)).mono ?_
      rintro e wy ⟨vy, rfl, iy, hby⟩
      obtain ⟨e1, e2, e3, e4, e5, e6, e7, rfl, iy0, iy1⟩ := iy
      go_wp2_with fail
      have hK' := hK.out
      simp only [putAll, Act.put, List.setIfInBounds_toArray, List.set_cons_zero, List.set_cons_succ] at hK'
      exact hK' _ _ ⟨_, _, _, _, _, _, _, rfl, iy0, iy1⟩ hby (by simp)
    · omega
  · intro vs wx hvl hb hf hdist
    have hvs := len3 hvl
    obtain ⟨s3, s4, s5, rfl⟩ := hvs
    have f2 : RatTold wx s5 (Rat.divInt p 1) := hf 2 (by decide)
    obtain ⟨e11, e12, e13, e14, e15, e16, e17, rfl, i1, i2⟩ := f2
    have rz := Hrz.out.below hb
    have xz := cells3 rz
    obtain ⟨z0, z1, z2⟩ := xz
    have fz := frozen4 rz
    obtain ⟨fz0, fz1, fz2, -⟩ := fz
    clear hf hdist hvl
    refine wpAny_one (i := 3) (by kernel_rfl) rfl ?_
    intro K hK
    simp only [putAll, Act.put, List.setIfInBounds_toArray, List.set_cons_zero, List.set_cons_succ]
    go_simp
    have hK' := hK.out
    apply hK'
    clear hK hK'
    have m := put3 rz (by simp [nonInt]) (.bool e11) (.slice e12 e13 e14) (.slice e15 e16 e17) (by simp [nonInt])
    have j1 := m.2.int _ _ i1; have j2 := m.2.int _ _ i2
    have jb := m.2.bel w.heap.size w (by omega) (Hbw.out.trans (hb.mono (B' := w.heap.size) Hbw.out.size))
    have xm := cells3 m.1
    clear m rz z0 z1 z2 fz0 fz1 fz2 i1 i2
    generalize (((wx.setCell ⟨w.heap.size + 1, 0, none⟩ (.bool e11)).setCell ⟨w.heap.size + 1, 1, none⟩ (.slice e12 e13 e14)).setCell ⟨w.heap.size + 1, 2, none⟩ (.slice e15 e16 e17)) = wz at *
    obtain ⟨z0, z1, z2⟩ := xm
    refine wpAny_done (by kernel_rfl) ?_ _
    go_wp2
    exact bodyPost_ret (v := .agg #[.bool e11, .slice e12 e13 e14, .slice e15 e16 e17]) (by simp [results, Try.results14, go_sem, z0, z1, z2]) rfl ⟨_, rfl, ⟨_, _, _, _, _, _, _, rfl, j1, j2⟩, jb⟩

end Go.Proofs.Yteiniokddopacaa
/- elenchusref02's calls: Den, Neg, Mul, Div. -/
namespace Go.Proofs.Yteiniokddopacaa
open Go.RowKit Big

theorem len9 {vs : List Value} (h : vs.length = 9) : ∃ a b c d e f g h i, vs = [a, b, c, d, e, f, g, h, i] := by
  match vs, h with
  | [a, b, c, d, e, f, g, h, i], _ => exact ⟨a, b, c, d, e, f, g, h, i, rfl⟩
set_option maxRecDepth 100000 in
set_option maxHeartbeats 3200000 in
theorem Den_any (v : Value) (p q : Int) (w : World) (h : RatRaw w v p q) (sq : sz W q.natAbs ≤ 1000) : Calls Try.prog 48 #[v] w (RInt (dn q) w) := by
  obtain ⟨d, hd⟩ : ∃ d, d = dn q := ⟨_, rfl⟩
  rw [← hd]
  have Hd := hid hd
  clear hd
  obtain ⟨b, p0, n0, c0, p1, n1, c1, rfl, ha0, ha1⟩ := id h
  have H := hid h; have HA := hid ha0; have HD := hid ha1
  clear h ha0 ha1
  go_enter Try.func48, Try.ntmps48
  go_upto_region 1 with fail
  generalize hW : World.alloc (World.alloc w _) _ = W0
  have bw : Below w.heap.size w W0 := by rw [← hW]; exact (below1 _ _).alloc (by simp) _
  have ra : Rec W0 w.heap.size 29 #[.bool b, .slice p0 n0 c0, .slice p1 n1 c1] := by
    rw [← hW]; exact ((Rec.new ..).below (below1 _ _))
  have rz : Rec W0 (w.heap.size + 1) 25 #[.bool false, .slice none 0 0] := by
    rw [← hW]
    have := Rec.new (w.alloc (.cells #[.bool b, .slice p0 n0 c0, .slice p1 n1 c1] 29)) #[.bool false, .slice none 0 0] 25
    rwa [size_alloc] at this
  clear hW
  have x := cells3 ra
  obtain ⟨x0, x1, x2⟩ := x
  have hwh : Calls Try.prog 40 #[.bool false, .slice p1 n1 c1] W0 (RInt q W0) := by
    obtain ⟨neg, s, l, hv, h1, h2, h3, rfl⟩ := HD.out.below bw
    injection hv with hv
    simp at hv
    obtain ⟨rfl, rfl⟩ := hv
    exact Whole_any false _ l W0 h1 h2 (by omega)
  have Hwh := hid hwh; have Hrz := hid rz; have Hbw := hid bw
  clear hwh ra rz bw H HA HD
  go_wp2_with fail
  refine Hwh.out.mono ?_
  rintro e w1 ⟨v1, rfl, i1, b1⟩
  have i1p := i1.parts'
  obtain ⟨d1, q1, m1, k1, rfl, i1⟩ := i1p
  go_upto_region 2 with fail
  generalize hW : World.alloc w1 _ = W1
  have X1 : Below w1.heap.size w1 W1 ∧ IntCell W1 w1.heap.size q := by
    rw [← hW]; exact ⟨below1 _ _, _, _, _, _, heap_alloc_new w1 _, i1.below (below1 _ _)⟩
  have b01 : Below W0.heap.size W0 W1 := b1.trans (X1.1.mono (B' := W0.heap.size) b1.size)
  have rz := Hrz.out.below b01
  have bw : Below w.heap.size w W1 := Hbw.out.trans (b01.mono (B' := w.heap.size) Hbw.out.size)
  have C1 := X1.2
  obtain ⟨g, hg⟩ : ∃ g, g = w1.heap.size := ⟨_, rfl⟩
  rw [← hg] at C1 ⊢
  clear hW X1 hg b01 b1 i1 Hwh Hrz Hbw x0 x1 x2
  obtain ⟨d2, u2, n2, k2, e2, i2⟩ := id C1
  have y := two_cells e2
  obtain ⟨y0, y1, -, -⟩ := y
  have hsg := RSign_any _ q W1 (i2.raw (by omega))
  have Hsg := hid hsg; have Hrz := hid rz; have Hbw := hid bw; have HC := hid C1
  clear hsg rz bw C1 e2 i2
  by_cases hq : q = 0
  · have Hd1 : Hid (d = 1) := by unfold Hid; rw [Hd.out, hq]; rfl
    rw [hq, Int.sign_zero] at Hsg
    clear hq
    go_wp2_with fail
    refine Hsg.out.mono ?_
    rintro e w2 ⟨rfl, b2⟩
    have Hrz := hid (Hrz.out.below b2); have Hbw := hid (Hbw.out.trans (b2.mono (B' := w.heap.size) Hbw.out.size))
    clear b2 y0 y1 HC
    go_wp2_with fail
    refine (ROf_any 1 _ (by decide) (by decide)).mono ?_
    rintro e w3 ⟨v3, rfl, i3, b3⟩
    have i3p := i3.parts'
    obtain ⟨f1, f2, f3, f4, rfl, i3⟩ := i3p
    have rz := Hrz.out.below b3
    have bw := Hbw.out.trans (b3.mono (B' := w.heap.size) Hbw.out.size)
    have xz0 := rz.cell 0; have xz1 := rz.cell 1
    simp only [List.getElem?_toArray, List.getElem?_cons_zero, List.getElem?_cons_succ] at xz0 xz1
    have fz := frozen4 rz
    obtain ⟨g0, g1, -, -⟩ := fz
    have m := put2 rz (by simp [nonInt]) (.bool f1) (.slice f2 f3 f4) (by simp [nonInt])
    have mi := hid (m.2.int _ _ i3)
    have mb := hid (m.2.bel w.heap.size w (by omega) bw)
    clear m rz bw i3 b3
    go_wp2
    exact bodyPost_ret (v := .agg #[.bool f1, .slice f2 f3 f4]) (by simp [results, Try.results48, go_sem, xz0, xz1]) rfl ⟨_, rfl, by rw [Hd1.out]; exact mi.out, mb.out⟩
  · have Hdq : Hid (d = q) := by unfold Hid; rw [Hd.out]; unfold dn; rw [if_neg hq]
    have hs : (q.sign == 0) = false := beq_eq_false_iff_ne.2 (fun e => hq (Int.sign_eq_zero_iff_zero.1 e))
    clear hq
    go_wp2_with fail
    refine Hsg.out.mono ?_
    rintro e w2 ⟨rfl, b2⟩
    have rz := Hrz.out.below b2
    have bw := Hbw.out.trans (b2.mono (B' := w.heap.size) Hbw.out.size)
    obtain ⟨f1, f2, f3, f4, e3, i3⟩ := HC.out.below b2
    have y := two_cells e3
    obtain ⟨z0, z1, -, -⟩ := y
    have xz0 := rz.cell 0; have xz1 := rz.cell 1
    simp only [List.getElem?_toArray, List.getElem?_cons_zero, List.getElem?_cons_succ] at xz0 xz1
    have fz := frozen4 rz
    obtain ⟨g0, g1, -, -⟩ := fz
    have m := put2 rz (by simp [nonInt]) (.bool f1) (.slice f2 f3 f4) (by simp [nonInt])
    have mi := hid (m.2.int _ _ i3)
    have mb := hid (m.2.bel w.heap.size w (by omega) bw)
    clear m rz bw i3 b2 e3 y0 y1 HC Hrz Hbw
    go_wp2
    exact bodyPost_ret (v := .agg #[.bool f1, .slice f2 f3 f4]) (by simp [results, Try.results48, go_sem, xz0, xz1]) rfl ⟨_, rfl, by rw [Hdq.out]; exact mi.out, mb.out⟩

set_option maxRecDepth 100000 in
set_option maxHeartbeats 3200000 in
theorem RNeg2_any (v : Value) (p q : Int) (w : World) (h : RatRaw w v p q) (sp : sz W p.natAbs ≤ 1000) (sq : sz W q.natAbs ≤ 1000) : Calls Try.prog 51 #[v] w (RRat (-(Rat.divInt p (dn q))) w) := by
  have hd : dn q ≠ 0 := by have := dn_pos h.den; omega
  have spn : sz W (-p).natAbs ≤ 1000 := by rw [Int.natAbs_neg]; exact sp
  have sqd := sz_dn sq (by decide)
  have Hne := hid hd
  rw [Rat.neg_divInt]
  clear hd
  obtain ⟨b, p0, n0, c0, p1, n1, c1, rfl, ha0, ha1⟩ := id h
  have H := hid h; have HA := hid ha0; have HD := hid ha1
  clear h ha0 ha1
  go_enter Try.func51, Try.ntmps51
  go_upto_region 1 with fail
  generalize hW : World.alloc (World.alloc w _) _ = W0
  have bw : Below w.heap.size w W0 := by rw [← hW]; exact (below1 _ _).alloc (by simp) _
  have ra : Rec W0 w.heap.size 29 #[.bool b, .slice p0 n0 c0, .slice p1 n1 c1] := by
    rw [← hW]; exact ((Rec.new ..).below (below1 _ _))
  have rz : Rec W0 (w.heap.size + 1) 29 #[.bool false, .slice none 0 0, .slice none 0 0] := by
    rw [← hW]
    have := Rec.new (w.alloc (.cells #[.bool b, .slice p0 n0 c0, .slice p1 n1 c1] 29)) #[.bool false, .slice none 0 0, .slice none 0 0] 29
    rwa [size_alloc] at this
  clear hW
  have HRA := hid (H.out.below bw); have HA := hid (HA.out.below bw); have Hrz := hid rz; have Hbw := hid bw
  have HS : Hid (∀ w', Below W0.heap.size W0 w' → w'.cell? ⟨w.heap.size, 0, none⟩ = some (.bool b) ∧ w'.cell? ⟨w.heap.size, 1, none⟩ = some (.slice p0 n0 c0) ∧ w'.cell? ⟨w.heap.size, 2, none⟩ = some (.slice p1 n1 c1)) := fun w' hb => cells3 (ra.below hb)
  clear ra rz bw
  refine wp_region_facts (w0 := W0) 6 1 [3, 4, 5, 6, 7, 8] [undef, undef, undef, undef, undef, undef]
    (fun i => match i with | 0 => eqF (.pointer (some ⟨w.heap.size, 0, none⟩)) | 1 => eqF (.agg #[.bool b, .slice p0 n0 c0]) | 2 => intF (-p) | 3 => eqF (.agg #[.bool b, .slice p0 n0 c0, .slice p1 n1 c1]) | 4 => intF (dn q) | _ => ratF (Rat.divInt (-p) (dn q))) [] (by kernel_rfl) (by kernel_rfl) (by kernel_rfl) (by kernel_rfl) (by decide) rfl (by kernel_rfl) rfl (by simp) ?he9 ?_ ?_ ?_
  case he9 => simp only [putAll, Act.put, List.setIfInBounds_toArray, List.set_cons_zero, List.set_cons_succ]
  · intro i hi; simp at hi
  · intro i o hi ho vs wx hvl hb hdep K hK
    have hvs := len6 hvl
    obtain ⟨s3, s4, s5, s6, s7, s8, rfl⟩ := hvs
    clear hvl
    have hk := HS.out wx hb
    go_split_ands
    rcases i with _ | _ | _ | _ | _ | _ | i
    all_goals (simp only [List.getElem?_toArray, List.getElem?_cons_zero, List.getElem?_cons_succ, Option.some.injEq] at ho)
    all_goals try (subst ho)
    all_goals try simp only [putAll, Act.put, List.setIfInBounds_toArray, List.set_cons_zero, List.set_cons_succ]
    · go_simp
      have hK' := hK.out
      simp only [putAll, Act.put, List.setIfInBounds_toArray, List.set_cons_zero, List.set_cons_succ] at hK'
      exact hK' _ _ rfl (Below.refl _ _) (by simp)
    · have e0 : s3 = _ := hdep ⟨0, .data⟩ (by simp) rfl
      subst e0
      go_simp
      have hK' := hK.out
      simp only [putAll, Act.put, List.setIfInBounds_toArray, List.set_cons_zero, List.set_cons_succ] at hK'
      exact hK' _ _ rfl (Below.refl _ _) (by simp)
    · have e1 : s4 = _ := hdep ⟨1, .data⟩ (by simp) rfl
      subst e1
      go_simp
      refine (RNeg_any _ p _ (HA.out.below hb)).mono ?_
      rintro e wy ⟨vy, rfl, iy, hby⟩
      have hsh := iy.parts'
      obtain ⟨q5, p5, n5, c5, rfl, iy⟩ := hsh
      go_wp2_with fail
      have hK' := hK.out
      simp only [putAll, Act.put, List.setIfInBounds_toArray, List.set_cons_zero, List.set_cons_succ] at hK'
      exact hK' _ _ ⟨_, _, _, _, rfl, iy⟩ hby (by simp)
    · go_simp
      have hK' := hK.out
      simp only [putAll, Act.put, List.setIfInBounds_toArray, List.set_cons_zero, List.set_cons_succ] at hK'
      exact hK' _ _ rfl (Below.refl _ _) (by simp)
    · have e3 : s6 = _ := hdep ⟨3, .data⟩ (by simp) rfl
      subst e3
      go_simp
      refine (Den_any _ p q _ (HRA.out.below hb) sq).mono ?_
      rintro e wy ⟨vy, rfl, iy, hby⟩
      have hsh := iy.parts'
      obtain ⟨q5, p5, n5, c5, rfl, iy⟩ := hsh
      go_wp2_with fail
      have hK' := hK.out
      simp only [putAll, Act.put, List.setIfInBounds_toArray, List.set_cons_zero, List.set_cons_succ] at hK'
      exact hK' _ _ ⟨_, _, _, _, rfl, iy⟩ hby (by simp)
    · have e2 : (intF (-p)).P s5 wx := hdep ⟨2, .data⟩ (by simp) rfl
      obtain ⟨da2, pa2, na2, ca2, rfl, ia2⟩ := e2
      have e4 : (intF (dn q)).P s7 wx := hdep ⟨4, .data⟩ (by simp) rfl
      obtain ⟨da4, pa4, na4, ca4, rfl, ia4⟩ := e4
      go_simp
      refine (Make_any _ _ (-p) (dn q) _ (ia2.raw (by omega)) (ia4.raw (by omega)) Hne.out spn sqd).mono ?_
      rintro e wy ⟨vy, rfl, iy, hby⟩
      obtain ⟨e1, e2, e3, e4, e5, e6, e7, rfl, iy0, iy1⟩ := iy
      go_wp2_with fail
      have hK' := hK.out
      simp only [putAll, Act.put, List.setIfInBounds_toArray, List.set_cons_zero, List.set_cons_succ] at hK'
      exact hK' _ _ ⟨_, _, _, _, _, _, _, rfl, iy0, iy1⟩ hby (by simp)
    · omega
  · intro vs wx hvl hb hf hdist
    have hvs := len6 hvl
    obtain ⟨s3, s4, s5, s6, s7, s8, rfl⟩ := hvs
    have f5 : RatTold wx s8 (Rat.divInt (-p) (dn q)) := hf 5 (by decide)
    obtain ⟨e11, e12, e13, e14, e15, e16, e17, rfl, i1, i2⟩ := f5
    have rz := Hrz.out.below hb
    have xz := cells3 rz
    obtain ⟨z0, z1, z2⟩ := xz
    have fz := frozen4 rz
    obtain ⟨fz0, fz1, fz2, -⟩ := fz
    clear hf hdist hvl
    refine wpAny_one (i := 6) (by kernel_rfl) rfl ?_
    intro K hK
    simp only [putAll, Act.put, List.setIfInBounds_toArray, List.set_cons_zero, List.set_cons_succ]
    go_simp
    have hK' := hK.out
    apply hK'
    clear hK hK'
    have m := put3 rz (by simp [nonInt]) (.bool e11) (.slice e12 e13 e14) (.slice e15 e16 e17) (by simp [nonInt])
    have j1 := m.2.int _ _ i1; have j2 := m.2.int _ _ i2
    have jb := m.2.bel w.heap.size w (by omega) (Hbw.out.trans (hb.mono (B' := w.heap.size) Hbw.out.size))
    have xm := cells3 m.1
    clear m rz z0 z1 z2 fz0 fz1 fz2 i1 i2
    generalize (((wx.setCell ⟨w.heap.size + 1, 0, none⟩ (.bool e11)).setCell ⟨w.heap.size + 1, 1, none⟩ (.slice e12 e13 e14)).setCell ⟨w.heap.size + 1, 2, none⟩ (.slice e15 e16 e17)) = wz at *
    obtain ⟨z0, z1, z2⟩ := xm
    refine wpAny_done (by kernel_rfl) ?_ _
    go_wp2
    exact bodyPost_ret (v := .agg #[.bool e11, .slice e12 e13 e14, .slice e15 e16 e17]) (by simp [results, Try.results51, go_sem, z0, z1, z2]) rfl ⟨_, rfl, ⟨_, _, _, _, _, _, _, rfl, j1, j2⟩, jb⟩

set_option maxRecDepth 100000 in
set_option maxHeartbeats 6400000 in
theorem RMul2_any (v0 v1 : Value) (p q r s : Int) (w : World) (h0 : RatRaw w v0 p q) (h1 : RatRaw w v1 r s) (l0 : sz W p.natAbs ≤ 400) (l1 : sz W q.natAbs ≤ 400) (l2 : sz W r.natAbs ≤ 400) (l3 : sz W s.natAbs ≤ 400) :
    Calls Try.prog 27 #[v0, v1] w (RRat (Rat.divInt p (dn q) * Rat.divInt r (dn s)) w) := by
  have hx : Rat.divInt p (dn q) * Rat.divInt r (dn s) = Rat.divInt (p * r) (dn q * dn s) := Rat.divInt_mul_divInt _ _
  have hne : dn q * dn s ≠ 0 := by
    have := Int.mul_pos (dn_pos h0.den) (dn_pos h1.den)
    omega
  rw [hx]
  have Hne := hid hne
  have l1' := sz_dn l1 (by decide)
  have l3' := sz_dn l3 (by decide)
  have la := hid (sz_mul2 l0 l2); have lb := hid (sz_mul2 l1' l3')
  clear hx hne
  obtain ⟨b, p0, n0, c0, p1, n1, c1, rfl, ha0, ha1⟩ := id h0
  obtain ⟨b', p2, n2, c2, p3, n3, c3, rfl, hb0, hb1⟩ := id h1
  have HRA := hid h0; have HRB := hid h1; have HPA := hid ha0; have HPB := hid hb0
  clear ha0 ha1 hb0 hb1 h0 h1
  go_enter Try.func27, Try.ntmps27
  go_upto_region 1 with fail
  generalize hW : World.alloc (World.alloc (World.alloc w _) _) _ = W0
  have bw : Below w.heap.size w W0 := by rw [← hW]; exact ((below1 _ _).alloc (by simp) _).alloc (by simp; omega) _
  have ra : Rec W0 w.heap.size 29 #[.bool b, .slice p0 n0 c0, .slice p1 n1 c1] := by
    rw [← hW]; exact ((Rec.new ..).below (below1 _ _)).below (below1 _ _)
  have rb : Rec W0 (w.heap.size + 1) 29 #[.bool b', .slice p2 n2 c2, .slice p3 n3 c3] := by
    rw [← hW]
    have := (Rec.new (w.alloc (.cells #[.bool b, .slice p0 n0 c0, .slice p1 n1 c1] 29)) #[.bool b', .slice p2 n2 c2, .slice p3 n3 c3] 29)
    rw [size_alloc] at this
    exact this.below (below1 _ _)
  have rz : Rec W0 (w.heap.size + 1 + 1) 29 #[.bool false, .slice none 0 0, .slice none 0 0] := by
    rw [← hW]
    have := Rec.new ((w.alloc (.cells #[.bool b, .slice p0 n0 c0, .slice p1 n1 c1] 29)).alloc (.cells #[.bool b', .slice p2 n2 c2, .slice p3 n3 c3] 29)) #[.bool false, .slice none 0 0, .slice none 0 0] 29
    rwa [size_alloc, size_alloc] at this
  have Hrz := hid rz
  clear rz
  have HS : Hid (∀ w', Below W0.heap.size W0 w' → w'.cell? ⟨w.heap.size, 0, none⟩ = some (.bool b) ∧ w'.cell? ⟨w.heap.size, 1, none⟩ = some (.slice p0 n0 c0) ∧ w'.cell? ⟨w.heap.size, 2, none⟩ = some (.slice p1 n1 c1) ∧
      w'.cell? ⟨w.heap.size + 1, 0, none⟩ = some (.bool b') ∧ w'.cell? ⟨w.heap.size + 1, 1, none⟩ = some (.slice p2 n2 c2) ∧ w'.cell? ⟨w.heap.size + 1, 2, none⟩ = some (.slice p3 n3 c3)) := by
    intro w' hb
    have xa := cells3 (ra.below hb)
    have xb := cells3 (rb.below hb)
    exact ⟨xa.1, xa.2.1, xa.2.2, xb.1, xb.2.1, xb.2.2⟩
  have HPA := hid (HPA.out.below bw); have HPB := hid (HPB.out.below bw); have HRA := hid (HRA.out.below bw); have HRB := hid (HRB.out.below bw); have Hbw := hid bw
  clear hW ra rb bw
  refine wp_region_facts (w0 := W0) 11 1 [5, 6, 7, 8, 9, 10, 11, 12, 13, 14, 15] [undef, undef, undef, undef, undef, undef, undef, undef, undef, undef, undef]
    (fun i => match i with | 0 => eqF (.pointer (some ⟨w.heap.size, 0, none⟩)) | 1 => eqF (.agg #[.bool b, .slice p0 n0 c0]) | 2 => eqF (.pointer (some ⟨w.heap.size + 1, 0, none⟩)) | 3 => eqF (.agg #[.bool b', .slice p2 n2 c2]) | 4 => intF (p * r) | 5 => eqF (.agg #[.bool b, .slice p0 n0 c0, .slice p1 n1 c1]) | 6 => intF (dn q) | 7 => eqF (.agg #[.bool b', .slice p2 n2 c2, .slice p3 n3 c3]) | 8 => intF (dn s) | 9 => intF (dn q * dn s) | _ => ratF (Rat.divInt (p * r) (dn q * dn s))) [] (by kernel_rfl) (by kernel_rfl) (by kernel_rfl) (by kernel_rfl) (by decide) rfl (by kernel_rfl) rfl (by simp) ?he10 ?_ ?_ ?_
  case he10 => simp only [putAll, Act.put, List.setIfInBounds_toArray, List.set_cons_zero, List.set_cons_succ]
  · intro i hi; simp at hi
  · intro i o hi ho vs wx hvl hb hdep K hK
    have hvs := len11 hvl
    obtain ⟨s5, s6, s7, s8, s9, s10, s11, s12, s13, s14, s15, rfl⟩ := hvs
    clear hvl
    have hk := HS.out wx hb
    go_split_ands
    rcases i with _ | _ | _ | _ | _ | _ | _ | _ | _ | _ | _ | i
    all_goals (simp only [List.getElem?_toArray, List.getElem?_cons_zero, List.getElem?_cons_succ, Option.some.injEq] at ho)
    all_goals try (subst ho)
    all_goals try simp only [putAll, Act.put, List.setIfInBounds_toArray, List.set_cons_zero, List.set_cons_succ]
    · go_simp
      have hK' := hK.out
      simp only [putAll, Act.put, List.setIfInBounds_toArray, List.set_cons_zero, List.set_cons_succ] at hK'
      exact hK' _ _ rfl (Below.refl _ _) (by simp)
    · have e0 : s5 = _ := hdep ⟨0, .data⟩ (by simp) rfl
      subst e0
      go_simp
      have hK' := hK.out
      simp only [putAll, Act.put, List.setIfInBounds_toArray, List.set_cons_zero, List.set_cons_succ] at hK'
      exact hK' _ _ rfl (Below.refl _ _) (by simp)
    · go_simp
      have hK' := hK.out
      simp only [putAll, Act.put, List.setIfInBounds_toArray, List.set_cons_zero, List.set_cons_succ] at hK'
      exact hK' _ _ rfl (Below.refl _ _) (by simp)
    · have e2 : s7 = _ := hdep ⟨2, .data⟩ (by simp) rfl
      subst e2
      go_simp
      have hK' := hK.out
      simp only [putAll, Act.put, List.setIfInBounds_toArray, List.set_cons_zero, List.set_cons_succ] at hK'
      exact hK' _ _ rfl (Below.refl _ _) (by simp)
    · have e1 : s6 = _ := hdep ⟨1, .data⟩ (by simp) rfl
      subst e1
      have e3 : s8 = _ := hdep ⟨3, .data⟩ (by simp) rfl
      subst e3
      go_simp
      refine (RMul_any _ _ p r _ (HPA.out.below hb) (HPB.out.below hb) (by omega) (by omega)).mono ?_
      rintro e wy ⟨vy, rfl, iy, hby⟩
      have hsh := iy.parts'
      obtain ⟨q5, p5, n5, c5, rfl, iy⟩ := hsh
      go_wp2_with fail
      have hK' := hK.out
      simp only [putAll, Act.put, List.setIfInBounds_toArray, List.set_cons_zero, List.set_cons_succ] at hK'
      exact hK' _ _ ⟨_, _, _, _, rfl, iy⟩ hby (by simp)
    · go_simp
      have hK' := hK.out
      simp only [putAll, Act.put, List.setIfInBounds_toArray, List.set_cons_zero, List.set_cons_succ] at hK'
      exact hK' _ _ rfl (Below.refl _ _) (by simp)
    · have e5 : s10 = _ := hdep ⟨5, .data⟩ (by simp) rfl
      subst e5
      go_simp
      refine (Den_any _ p q _ (HRA.out.below hb) (by omega)).mono ?_
      rintro e wy ⟨vy, rfl, iy, hby⟩
      have hsh := iy.parts'
      obtain ⟨q5, p5, n5, c5, rfl, iy⟩ := hsh
      go_wp2_with fail
      have hK' := hK.out
      simp only [putAll, Act.put, List.setIfInBounds_toArray, List.set_cons_zero, List.set_cons_succ] at hK'
      exact hK' _ _ ⟨_, _, _, _, rfl, iy⟩ hby (by simp)
    · go_simp
      have hK' := hK.out
      simp only [putAll, Act.put, List.setIfInBounds_toArray, List.set_cons_zero, List.set_cons_succ] at hK'
      exact hK' _ _ rfl (Below.refl _ _) (by simp)
    · have e7 : s12 = _ := hdep ⟨7, .data⟩ (by simp) rfl
      subst e7
      go_simp
      refine (Den_any _ r s _ (HRB.out.below hb) (by omega)).mono ?_
      rintro e wy ⟨vy, rfl, iy, hby⟩
      have hsh := iy.parts'
      obtain ⟨q5, p5, n5, c5, rfl, iy⟩ := hsh
      go_wp2_with fail
      have hK' := hK.out
      simp only [putAll, Act.put, List.setIfInBounds_toArray, List.set_cons_zero, List.set_cons_succ] at hK'
      exact hK' _ _ ⟨_, _, _, _, rfl, iy⟩ hby (by simp)
    · have e6 : (intF (dn q)).P s11 wx := hdep ⟨6, .data⟩ (by simp) rfl
      obtain ⟨da6, pa6, na6, ca6, rfl, ia6⟩ := e6
      have e8 : (intF (dn s)).P s13 wx := hdep ⟨8, .data⟩ (by simp) rfl
      obtain ⟨da8, pa8, na8, ca8, rfl, ia8⟩ := e8
      go_simp
      refine (RMul_any _ _ (dn q) (dn s) _ (ia6.raw (by omega)) (ia8.raw (by omega)) (by omega) (by omega)).mono ?_
      rintro e wy ⟨vy, rfl, iy, hby⟩
      have hsh := iy.parts'
      obtain ⟨q5, p5, n5, c5, rfl, iy⟩ := hsh
      go_wp2_with fail
      have hK' := hK.out
      simp only [putAll, Act.put, List.setIfInBounds_toArray, List.set_cons_zero, List.set_cons_succ] at hK'
      exact hK' _ _ ⟨_, _, _, _, rfl, iy⟩ hby (by simp)
    · have e4 : (intF (p * r)).P s9 wx := hdep ⟨4, .data⟩ (by simp) rfl
      obtain ⟨da4, pa4, na4, ca4, rfl, ia4⟩ := e4
      have e9 : (intF (dn q * dn s)).P s14 wx := hdep ⟨9, .data⟩ (by simp) rfl
      obtain ⟨da9, pa9, na9, ca9, rfl, ia9⟩ := e9
      go_simp
      refine (Make_any _ _ (p * r) (dn q * dn s) _ (ia4.raw (by have := la.out; omega)) (ia9.raw (by have := lb.out; omega)) Hne.out (by have := la.out; omega) (by have := lb.out; omega)).mono ?_
      rintro e wy ⟨vy, rfl, iy, hby⟩
      obtain ⟨e1, e2, e3, e4, e5, e6, e7, rfl, iy0, iy1⟩ := iy
      go_wp2_with fail
      have hK' := hK.out
      simp only [putAll, Act.put, List.setIfInBounds_toArray, List.set_cons_zero, List.set_cons_succ] at hK'
      exact hK' _ _ ⟨_, _, _, _, _, _, _, rfl, iy0, iy1⟩ hby (by simp)
    · omega
  · intro vs wx hvl hb hf hdist
    have hvs := len11 hvl
    obtain ⟨s5, s6, s7, s8, s9, s10, s11, s12, s13, s14, s15, rfl⟩ := hvs
    have f10 : RatTold wx s15 (Rat.divInt (p * r) (dn q * dn s)) := hf 10 (by decide)
    obtain ⟨e11, e12, e13, e14, e15, e16, e17, rfl, i1, i2⟩ := f10
    have rz := Hrz.out.below hb
    have xz := cells3 rz
    obtain ⟨z0, z1, z2⟩ := xz
    have fz := frozen4 rz
    obtain ⟨fz0, fz1, fz2, -⟩ := fz
    clear hf hdist hvl
    refine wpAny_one (i := 11) (by kernel_rfl) rfl ?_
    intro K hK
    simp only [putAll, Act.put, List.setIfInBounds_toArray, List.set_cons_zero, List.set_cons_succ]
    go_simp
    have hK' := hK.out
    apply hK'
    clear hK hK'
    have m := put3 rz (by simp [nonInt]) (.bool e11) (.slice e12 e13 e14) (.slice e15 e16 e17) (by simp [nonInt])
    have j1 := m.2.int _ _ i1; have j2 := m.2.int _ _ i2
    have jb := m.2.bel w.heap.size w (by omega) (Hbw.out.trans (hb.mono (B' := w.heap.size) Hbw.out.size))
    have xm := cells3 m.1
    clear m rz z0 z1 z2 fz0 fz1 fz2 i1 i2
    generalize (((wx.setCell ⟨w.heap.size + 1 + 1, 0, none⟩ (.bool e11)).setCell ⟨w.heap.size + 1 + 1, 1, none⟩ (.slice e12 e13 e14)).setCell ⟨w.heap.size + 1 + 1, 2, none⟩ (.slice e15 e16 e17)) = wz at *
    obtain ⟨z0, z1, z2⟩ := xm
    refine wpAny_done (by kernel_rfl) ?_ _
    go_wp2
    exact bodyPost_ret (v := .agg #[.bool e11, .slice e12 e13 e14, .slice e15 e16 e17]) (by simp [results, Try.results27, go_sem, z0, z1, z2]) rfl ⟨_, rfl, ⟨_, _, _, _, _, _, _, rfl, j1, j2⟩, jb⟩

end Go.Proofs.Yteiniokddopacaa
/- elenchusref02's Div, Sign. -/
namespace Go.Proofs.Yteiniokddopacaa
open Go.RowKit Big

set_option maxRecDepth 100000 in
set_option maxHeartbeats 6400000 in
theorem RDiv2_any (v0 v1 : Value) (p q r s : Int) (w : World) (h0 : RatRaw w v0 p q) (h1 : RatRaw w v1 r s) (l0 : sz W p.natAbs ≤ 400) (l1 : sz W q.natAbs ≤ 400) (l2 : sz W r.natAbs ≤ 400) (l3 : sz W s.natAbs ≤ 400) (hr : r ≠ 0) :
    Calls Try.prog 28 #[v0, v1] w (RRat (Rat.divInt p (dn q) / Rat.divInt r (dn s)) w) := by
  have hx : Rat.divInt p (dn q) / Rat.divInt r (dn s) = Rat.divInt (p * dn s) (dn q * r) := by
    rw [Rat.div_def, Rat.inv_divInt, Rat.divInt_mul_divInt]
  have hne : dn q * r ≠ 0 := Int.mul_ne_zero (by have := dn_pos h0.den; omega) hr
  rw [hx]
  have Hne := hid hne
  have l1' := sz_dn l1 (by decide)
  have l3' := sz_dn l3 (by decide)
  have la := hid (sz_mul2 l0 l3'); have lb := hid (sz_mul2 l1' l2)
  clear hx hne hr
  obtain ⟨b, p0, n0, c0, p1, n1, c1, rfl, ha0, ha1⟩ := id h0
  obtain ⟨b', p2, n2, c2, p3, n3, c3, rfl, hb0, hb1⟩ := id h1
  have HRA := hid h0; have HRB := hid h1; have HPA := hid ha0; have HPB := hid hb0
  clear ha0 ha1 hb0 hb1 h0 h1
  go_enter Try.func28, Try.ntmps28
  go_upto_region 1 with fail
  generalize hW : World.alloc (World.alloc (World.alloc w _) _) _ = W0
  have bw : Below w.heap.size w W0 := by rw [← hW]; exact ((below1 _ _).alloc (by simp) _).alloc (by simp; omega) _
  have ra : Rec W0 w.heap.size 29 #[.bool b, .slice p0 n0 c0, .slice p1 n1 c1] := by
    rw [← hW]; exact ((Rec.new ..).below (below1 _ _)).below (below1 _ _)
  have rb : Rec W0 (w.heap.size + 1) 29 #[.bool b', .slice p2 n2 c2, .slice p3 n3 c3] := by
    rw [← hW]
    have := (Rec.new (w.alloc (.cells #[.bool b, .slice p0 n0 c0, .slice p1 n1 c1] 29)) #[.bool b', .slice p2 n2 c2, .slice p3 n3 c3] 29)
    rw [size_alloc] at this
    exact this.below (below1 _ _)
  have rz : Rec W0 (w.heap.size + 1 + 1) 29 #[.bool false, .slice none 0 0, .slice none 0 0] := by
    rw [← hW]
    have := Rec.new ((w.alloc (.cells #[.bool b, .slice p0 n0 c0, .slice p1 n1 c1] 29)).alloc (.cells #[.bool b', .slice p2 n2 c2, .slice p3 n3 c3] 29)) #[.bool false, .slice none 0 0, .slice none 0 0] 29
    rwa [size_alloc, size_alloc] at this
  have Hrz := hid rz
  clear rz
  have HS : Hid (∀ w', Below W0.heap.size W0 w' → w'.cell? ⟨w.heap.size, 0, none⟩ = some (.bool b) ∧ w'.cell? ⟨w.heap.size, 1, none⟩ = some (.slice p0 n0 c0) ∧ w'.cell? ⟨w.heap.size, 2, none⟩ = some (.slice p1 n1 c1) ∧
      w'.cell? ⟨w.heap.size + 1, 0, none⟩ = some (.bool b') ∧ w'.cell? ⟨w.heap.size + 1, 1, none⟩ = some (.slice p2 n2 c2) ∧ w'.cell? ⟨w.heap.size + 1, 2, none⟩ = some (.slice p3 n3 c3)) := by
    intro w' hb
    have xa := cells3 (ra.below hb)
    have xb := cells3 (rb.below hb)
    exact ⟨xa.1, xa.2.1, xa.2.2, xb.1, xb.2.1, xb.2.2⟩
  have HPA := hid (HPA.out.below bw); have HPB := hid (HPB.out.below bw); have HRA := hid (HRA.out.below bw); have HRB := hid (HRB.out.below bw); have Hbw := hid bw
  clear hW ra rb bw
  refine wp_region_facts (w0 := W0) 11 1 [5, 6, 7, 8, 9, 10, 11, 12, 13, 14, 15] [undef, undef, undef, undef, undef, undef, undef, undef, undef, undef, undef]
    (fun i => match i with | 0 => eqF (.pointer (some ⟨w.heap.size, 0, none⟩)) | 1 => eqF (.agg #[.bool b, .slice p0 n0 c0]) | 2 => eqF (.agg #[.bool b', .slice p2 n2 c2, .slice p3 n3 c3]) | 3 => intF (dn s) | 4 => intF (p * dn s) | 5 => eqF (.agg #[.bool b, .slice p0 n0 c0, .slice p1 n1 c1]) | 6 => intF (dn q) | 7 => eqF (.pointer (some ⟨w.heap.size + 1, 0, none⟩)) | 8 => eqF (.agg #[.bool b', .slice p2 n2 c2]) | 9 => intF (dn q * r) | _ => ratF (Rat.divInt (p * dn s) (dn q * r))) [] (by kernel_rfl) (by kernel_rfl) (by kernel_rfl) (by kernel_rfl) (by decide) rfl (by kernel_rfl) rfl (by simp) ?he11 ?_ ?_ ?_
  case he11 => simp only [putAll, Act.put, List.setIfInBounds_toArray, List.set_cons_zero, List.set_cons_succ]
  · intro i hi; simp at hi
  · intro i o hi ho vs wx hvl hb hdep K hK
    have hvs := len11 hvl
    obtain ⟨s5, s6, s7, s8, s9, s10, s11, s12, s13, s14, s15, rfl⟩ := hvs
    clear hvl
    have hk := HS.out wx hb
    go_split_ands
    rcases i with _ | _ | _ | _ | _ | _ | _ | _ | _ | _ | _ | i
    all_goals (simp only [List.getElem?_toArray, List.getElem?_cons_zero, List.getElem?_cons_succ, Option.some.injEq] at ho)
    all_goals try (subst ho)
    all_goals try simp only [putAll, Act.put, List.setIfInBounds_toArray, List.set_cons_zero, List.set_cons_succ]
    · go_simp
      have hK' := hK.out
      simp only [putAll, Act.put, List.setIfInBounds_toArray, List.set_cons_zero, List.set_cons_succ] at hK'
      exact hK' _ _ rfl (Below.refl _ _) (by simp)
    · have e0 : s5 = _ := hdep ⟨0, .data⟩ (by simp) rfl
      subst e0
      go_simp
      have hK' := hK.out
      simp only [putAll, Act.put, List.setIfInBounds_toArray, List.set_cons_zero, List.set_cons_succ] at hK'
      exact hK' _ _ rfl (Below.refl _ _) (by simp)
    · go_simp
      have hK' := hK.out
      simp only [putAll, Act.put, List.setIfInBounds_toArray, List.set_cons_zero, List.set_cons_succ] at hK'
      exact hK' _ _ rfl (Below.refl _ _) (by simp)
    · have e2 : s7 = _ := hdep ⟨2, .data⟩ (by simp) rfl
      subst e2
      go_simp
      refine (Den_any _ r s _ (HRB.out.below hb) (by omega)).mono ?_
      rintro e wy ⟨vy, rfl, iy, hby⟩
      have hsh := iy.parts'
      obtain ⟨q5, p5, n5, c5, rfl, iy⟩ := hsh
      go_wp2_with fail
      have hK' := hK.out
      simp only [putAll, Act.put, List.setIfInBounds_toArray, List.set_cons_zero, List.set_cons_succ] at hK'
      exact hK' _ _ ⟨_, _, _, _, rfl, iy⟩ hby (by simp)
    · have e1 : s6 = _ := hdep ⟨1, .data⟩ (by simp) rfl
      subst e1
      have e3 : (intF (dn s)).P s8 wx := hdep ⟨3, .data⟩ (by simp) rfl
      obtain ⟨da3, pa3, na3, ca3, rfl, ia3⟩ := e3
      go_simp
      refine (RMul_any _ _ p (dn s) _ (HPA.out.below hb) (ia3.raw (by omega)) (by omega) (by omega)).mono ?_
      rintro e wy ⟨vy, rfl, iy, hby⟩
      have hsh := iy.parts'
      obtain ⟨q5, p5, n5, c5, rfl, iy⟩ := hsh
      go_wp2_with fail
      have hK' := hK.out
      simp only [putAll, Act.put, List.setIfInBounds_toArray, List.set_cons_zero, List.set_cons_succ] at hK'
      exact hK' _ _ ⟨_, _, _, _, rfl, iy⟩ hby (by simp)
    · go_simp
      have hK' := hK.out
      simp only [putAll, Act.put, List.setIfInBounds_toArray, List.set_cons_zero, List.set_cons_succ] at hK'
      exact hK' _ _ rfl (Below.refl _ _) (by simp)
    · have e5 : s10 = _ := hdep ⟨5, .data⟩ (by simp) rfl
      subst e5
      go_simp
      refine (Den_any _ p q _ (HRA.out.below hb) (by omega)).mono ?_
      rintro e wy ⟨vy, rfl, iy, hby⟩
      have hsh := iy.parts'
      obtain ⟨q5, p5, n5, c5, rfl, iy⟩ := hsh
      go_wp2_with fail
      have hK' := hK.out
      simp only [putAll, Act.put, List.setIfInBounds_toArray, List.set_cons_zero, List.set_cons_succ] at hK'
      exact hK' _ _ ⟨_, _, _, _, rfl, iy⟩ hby (by simp)
    · go_simp
      have hK' := hK.out
      simp only [putAll, Act.put, List.setIfInBounds_toArray, List.set_cons_zero, List.set_cons_succ] at hK'
      exact hK' _ _ rfl (Below.refl _ _) (by simp)
    · have e7 : s12 = _ := hdep ⟨7, .data⟩ (by simp) rfl
      subst e7
      go_simp
      have hK' := hK.out
      simp only [putAll, Act.put, List.setIfInBounds_toArray, List.set_cons_zero, List.set_cons_succ] at hK'
      exact hK' _ _ rfl (Below.refl _ _) (by simp)
    · have e6 : (intF (dn q)).P s11 wx := hdep ⟨6, .data⟩ (by simp) rfl
      obtain ⟨da6, pa6, na6, ca6, rfl, ia6⟩ := e6
      have e8 : s13 = _ := hdep ⟨8, .data⟩ (by simp) rfl
      subst e8
      go_simp
      refine (RMul_any _ _ (dn q) r _ (ia6.raw (by omega)) (HPB.out.below hb) (by omega) (by omega)).mono ?_
      rintro e wy ⟨vy, rfl, iy, hby⟩
      have hsh := iy.parts'
      obtain ⟨q5, p5, n5, c5, rfl, iy⟩ := hsh
      go_wp2_with fail
      have hK' := hK.out
      simp only [putAll, Act.put, List.setIfInBounds_toArray, List.set_cons_zero, List.set_cons_succ] at hK'
      exact hK' _ _ ⟨_, _, _, _, rfl, iy⟩ hby (by simp)
    · have e4 : (intF (p * dn s)).P s9 wx := hdep ⟨4, .data⟩ (by simp) rfl
      obtain ⟨da4, pa4, na4, ca4, rfl, ia4⟩ := e4
      have e9 : (intF (dn q * r)).P s14 wx := hdep ⟨9, .data⟩ (by simp) rfl
      obtain ⟨da9, pa9, na9, ca9, rfl, ia9⟩ := e9
      go_simp
      refine (Make_any _ _ (p * dn s) (dn q * r) _ (ia4.raw (by have := la.out; omega)) (ia9.raw (by have := lb.out; omega)) Hne.out (by have := la.out; omega) (by have := lb.out; omega)).mono ?_
      rintro e wy ⟨vy, rfl, iy, hby⟩
      obtain ⟨e1, e2, e3, e4, e5, e6, e7, rfl, iy0, iy1⟩ := iy
      go_wp2_with fail
      have hK' := hK.out
      simp only [putAll, Act.put, List.setIfInBounds_toArray, List.set_cons_zero, List.set_cons_succ] at hK'
      exact hK' _ _ ⟨_, _, _, _, _, _, _, rfl, iy0, iy1⟩ hby (by simp)
    · omega
  · intro vs wx hvl hb hf hdist
    have hvs := len11 hvl
    obtain ⟨s5, s6, s7, s8, s9, s10, s11, s12, s13, s14, s15, rfl⟩ := hvs
    have f10 : RatTold wx s15 (Rat.divInt (p * dn s) (dn q * r)) := hf 10 (by decide)
    obtain ⟨e11, e12, e13, e14, e15, e16, e17, rfl, i1, i2⟩ := f10
    have rz := Hrz.out.below hb
    have xz := cells3 rz
    obtain ⟨z0, z1, z2⟩ := xz
    have fz := frozen4 rz
    obtain ⟨fz0, fz1, fz2, -⟩ := fz
    clear hf hdist hvl
    refine wpAny_one (i := 11) (by kernel_rfl) rfl ?_
    intro K hK
    simp only [putAll, Act.put, List.setIfInBounds_toArray, List.set_cons_zero, List.set_cons_succ]
    go_simp
    have hK' := hK.out
    apply hK'
    clear hK hK'
    have m := put3 rz (by simp [nonInt]) (.bool e11) (.slice e12 e13 e14) (.slice e15 e16 e17) (by simp [nonInt])
    have j1 := m.2.int _ _ i1; have j2 := m.2.int _ _ i2
    have jb := m.2.bel w.heap.size w (by omega) (Hbw.out.trans (hb.mono (B' := w.heap.size) Hbw.out.size))
    have xm := cells3 m.1
    clear m rz z0 z1 z2 fz0 fz1 fz2 i1 i2
    generalize (((wx.setCell ⟨w.heap.size + 1 + 1, 0, none⟩ (.bool e11)).setCell ⟨w.heap.size + 1 + 1, 1, none⟩ (.slice e12 e13 e14)).setCell ⟨w.heap.size + 1 + 1, 2, none⟩ (.slice e15 e16 e17)) = wz at *
    obtain ⟨z0, z1, z2⟩ := xm
    refine wpAny_done (by kernel_rfl) ?_ _
    go_wp2
    exact bodyPost_ret (v := .agg #[.bool e11, .slice e12 e13 e14, .slice e15 e16 e17]) (by simp [results, Try.results28, go_sem, z0, z1, z2]) rfl ⟨_, rfl, ⟨_, _, _, _, _, _, _, rfl, j1, j2⟩, jb⟩

set_option maxRecDepth 100000 in
set_option maxHeartbeats 1600000 in
theorem RSign2_any (v : Value) (p q : Int) (w : World) (h : RatRaw w v p q) : Calls Try.prog 24 #[v] w (RNum .i64 p.sign w) := by
  obtain ⟨b, p0, n0, c0, p1, n1, c1, rfl, ha0, ha1⟩ := id h
  have H := hid h; have HA := hid ha0; have HD := hid ha1
  clear h ha0 ha1
  go_enter Try.func24, Try.ntmps24
  go_wp2_with fail
  refine (RSign_any _ p _ (HA.out.below (below1 _ _))).mono ?_
  rintro e w1 ⟨rfl, b1⟩
  have bw := hid ((below1 w (.cells #[.bool b, .slice p0 n0 c0, .slice p1 n1 c1] 29)).trans (b1.mono (B' := w.heap.size) (by simp)))
  clear b1
  go_wp2_with fail
  go_ret
  exact ⟨rfl, bw.out⟩
theorem RMul2_in {w : World} {v0 v1 : Value} {x y : Rat} (h0 : QIn w v0 x 400) (h1 : QIn w v1 y 400) : Calls Try.prog 27 #[v0, v1] w (RRat (x * y) w) := by
  obtain ⟨p, q, a, rfl, l0, l1⟩ := h0
  obtain ⟨r, s, b, rfl, l2, l3⟩ := h1
  exact RMul2_any _ _ p q r s w a b l0 l1 l2 l3
theorem RDiv2_in {w : World} {v0 v1 : Value} {x y : Rat} (h0 : QIn w v0 x 400) (h1 : QIn w v1 y 400) (hy : y ≠ 0) : Calls Try.prog 28 #[v0, v1] w (RRat (x / y) w) := by
  obtain ⟨p, q, a, rfl, l0, l1⟩ := h0
  obtain ⟨r, s, b, rfl, l2, l3⟩ := h1
  exact RDiv2_any _ _ p q r s w a b l0 l1 l2 l3 (fun e => hy ((div_zero_iff (dn_pos b.den)).2 e))
theorem RSign2_in {w : World} {v : Value} {x : Rat} {k : Nat} (h : QIn w v x k) : Calls Try.prog 24 #[v] w (RNum .i64 (cq x 0) w) := by
  obtain ⟨p, q, a, rfl, -⟩ := h
  have := RSign2_any v p q w a
  have e : p.sign = cq (Rat.divInt p (dn q)) 0 := by
    have h := cq_ord (p := p) (r := 0) (dn_pos a.den) (show (0 : Int) < 1 by decide)
    rw [Rat.zero_divInt, Int.mul_one, Int.zero_mul] at h
    rw [← h]
    rcases Int.lt_trichotomy p 0 with h1 | h1 | h1
    · rw [ord_lt h1, Int.sign_eq_neg_one_of_neg h1]
    · subst h1; rfl
    · rw [ord_gt h1, Int.sign_eq_one_of_pos h1]
  rwa [e] at this
end Go.Proofs.Yteiniokddopacaa
/- elenchuslaw02.RatioMakes answers true. -/
namespace Go.Proofs.Yteiniokddopacaa
open Go.RowKit Big

def NumIn (w : World) (v : Value) (k : Nat) : Prop := ∃ neg p c l, v = .agg #[.bool neg, .slice p k c] ∧ At w .u64 (.slice p k c) l ∧ Small W l ∧ l.length = k
theorem NumIn.below {w w' : World} {v : Value} {k : Nat} (h : NumIn w v k) (hb : Below w.heap.size w w') : NumIn w' v k := by
  obtain ⟨neg, p, c, l, hv, h0, r⟩ := h
  exact ⟨neg, p, c, l, hv, h0.below hb, r⟩
theorem NumIn.le {w : World} {v : Value} {k : Nat} (h : NumIn w v k) : k ≤ 9223372036854775807 := by
  obtain ⟨neg, p, c, l, hv, h0, -, e0⟩ := h
  obtain ⟨_, _, hv0, a0, b0, -⟩ := h0
  unfold maxLen at b0
  omega
theorem NumIn.raw {w : World} {v : Value} {k : Nat} (h : NumIn w v k) (hk : k ≤ 4) : ∃ p, RawAt w v p ∧ sz W p.natAbs ≤ 4 := by
  obtain ⟨neg, p, c, l, rfl, h0, s0, rfl⟩ := h
  exact ⟨_, ⟨neg, _, l, rfl, h0, s0, by omega, rfl⟩, by rw [sg_natAbs]; exact Nat.le_trans (sz_val W2 s0) hk⟩
theorem numIn {w : World} {v : Value} (h : ∃ neg s l, v = .agg #[.bool neg, s] ∧ At w .u64 s l ∧ Small W l) : ∃ k, NumIn w v k := by
  obtain ⟨neg, s, l, rfl, ha, hs⟩ := h
  obtain ⟨p, c, rfl, r⟩ := id ha
  exact ⟨_, neg, p, c, l, rfl, ha, hs, rfl⟩
theorem three {w : World} {a b c : Value} (t : TypeId) (j : Nat) : (w.alloc (.cells #[a, b, c] t)).cell? ⟨w.heap.size, j, none⟩ = #[a, b, c][j]? := cell_of_row _ _ j _ t (0, 0) (heap_alloc_new w _)

set_option maxRecDepth 100000 in
set_option maxHeartbeats 6400000 in
theorem lawMakes_any (v0 v1 : Value) (k0 k1 : Nat) (w : World) (h0 : NumIn w v0 k0) (h1 : NumIn w v1 k1) :
    Calls Try.prog 3 #[v0, v1] w (RBool true w) := by
  have H0 := hid h0; have H1 := hid h1
  have m0 := h0.le; have m1 := h1.le
  obtain ⟨a0, a1, a2, -, rfl, -⟩ := h0
  obtain ⟨b0, b1, b2, -, rfl, -⟩ := h1
  have hf := fun o o' => fixed2_any ((w.alloc o).alloc o')
  have Hf := hid hf
  clear hf
  go_enter Try.func3, Try.ntmps3
  go_wp2_with fail
  refine (Hf.out _ _).mono ?_
  rintro e u1 ⟨rfl, g1⟩
  have ra := ((Rec.new w #[.bool a0, .slice a1 k0 a2] 25).below (below1 _ (.cells #[.bool b0, .slice b1 k1 b2] 25))).below g1
  have rb := (Rec.new (w.alloc (.cells #[.bool a0, .slice a1 k0 a2] 25)) #[.bool b0, .slice b1 k1 b2] 25).below g1
  rw [size_alloc] at rb
  have bw := hid ((((below1 _ _).alloc (by simp) _) : Below w.heap.size w ((w.alloc (.cells #[.bool a0, .slice a1 k0 a2] 25)).alloc (.cells #[.bool b0, .slice b1 k1 b2] 25))).trans (g1.mono (B' := w.heap.size) (by simp; omega)))
  have HS0 : Hid (∀ w', Below u1.heap.size u1 w' → w'.cell? ⟨w.heap.size, 0, none⟩ = some (.bool a0) ∧ w'.cell? ⟨w.heap.size, 1, none⟩ = some (.slice a1 k0 a2) ∧ w'.cell? ⟨w.heap.size + 1, 0, none⟩ = some (.bool b0) ∧ w'.cell? ⟨w.heap.size + 1, 1, none⟩ = some (.slice b1 k1 b2)) := by
    intro w' hb
    exact ⟨(ra.below hb).cell 0, (ra.below hb).cell 1, (rb.below hb).cell 0, (rb.below hb).cell 1⟩
  obtain ⟨r, hr⟩ : ∃ r, r = decide (k0 ≤ 4 ∧ k1 ≤ 4) := ⟨_, rfl⟩
  have hfew := few_any u1.heap.size 1 1 (fun _ => k0) (fun _ => k1) r (u1.alloc (.cells #[.bool a0, .slice a1 k0 a2, .slice b1 k1 b2] 29))
    (fun i hi => by
      match i, hi with
      | 0, _ => exact ⟨a0, a1, a2, b1, b2, three _ 0, three _ 1, three _ 2⟩)
    (by decide) (by simp) (fun i hi => ⟨m0, m1⟩)
    (by
      rw [hr, decide_eq_true_iff]
      exact ⟨fun h i _ => h, fun h => h 0 (by decide)⟩)
  have Hfew := hid hfew
  have hcells := HS0.out _ (Below.refl _ _)
  clear hfew g1 ra rb m0 m1 Hf
  go_split_ands
  by_cases hall : k0 ≤ 4 ∧ k1 ≤ 4
  · have hrt : r = true := by rw [hr]; exact decide_eq_true hall
    rw [hrt] at Hfew
    clear hr hrt
    obtain ⟨hk0, hk1⟩ := hall
    go_wp2_with fail
    refine Hfew.out.mono ?_
    rintro e u2 ⟨rfl, d2'⟩
    have b12 : Below u1.heap.size u1 u2 := (below1 _ _).trans (d2'.mono (B' := u1.heap.size) (by simp))
    have bw2 := hid (bw.out.trans (b12.mono (B' := w.heap.size) bw.out.size))
    obtain ⟨p, hp, sp⟩ := (H0.out.below bw2.out).raw hk0
    obtain ⟨q, hq, sq⟩ := (H1.out.below bw2.out).raw hk1
    have HP := hid hp; have HQ := hid hq; have B12 := hid b12
    have hk := HS0.out _ b12
    have HS : Hid (∀ w', Below u2.heap.size u2 w' → w'.cell? ⟨w.heap.size, 0, none⟩ = some (.bool a0) ∧ w'.cell? ⟨w.heap.size, 1, none⟩ = some (.slice a1 k0 a2) ∧ w'.cell? ⟨w.heap.size + 1, 0, none⟩ = some (.bool b0) ∧ w'.cell? ⟨w.heap.size + 1, 1, none⟩ = some (.slice b1 k1 b2)) :=
      fun w' hb => HS0.out w' (Below.go hb B12.out)
    have HOf : Hid (∀ w', Below u2.heap.size u2 w' → Calls Try.prog 13 #[.agg #[.bool a0, .slice a1 k0 a2]] w' (RRat (Rat.divInt p 1) w')) := fun w' hb => QOf_any _ p w' (HP.out.below hb)
    have HOf2 : Hid (∀ w', Below u2.heap.size u2 w' → Calls Try.prog 14 #[.agg #[.bool a0, .slice a1 k0 a2]] w' (RRat (Rat.divInt p 1) w')) := fun w' hb => ROf2_any _ p w' (HP.out.below hb) (by omega)
    have Hsg : Hid (∀ w', Below u2.heap.size u2 w' → Calls Try.prog 15 #[.agg #[.bool b0, .slice b1 k1 b2]] w' (RNum .i64 q.sign w')) := fun w' hb => RSign_any _ q w' (HQ.out.below hb)
    clear d2' Hfew b12 hp hq hk0 hk1 H0 H1 bw HS0
    go_split_ands
    by_cases hq0 : q = 0
    · have Hnew : Hid (∀ w', Below u2.heap.size u2 w' → Calls Try.prog 11 #[.agg #[.bool a0, .slice a1 k0 a2], .agg #[.bool b0, .slice b1 k1 b2]] w' (RNone w')) := fun w' hb => QNew_none _ _ p w' (HP.out.below hb) (hq0 ▸ HQ.out.below hb)
      have Hsg0 : Hid (∀ w', Below u2.heap.size u2 w' → Calls Try.prog 15 #[.agg #[.bool b0, .slice b1 k1 b2]] w' (RNum .i64 0 w')) := fun w' hb => by
        have := Hsg.out w' hb
        rwa [hq0, Int.sign_zero] at this
      clear hq0 Hsg
      go_wp2_with fail
      refine (Hnew.out _ (Below.refl _ _)).mono ?_
      rintro e w3 ⟨rfl, b3⟩
      go_upto_region 6 with fail
      generalize hW : World.alloc w3 _ = W4
      have X4 : Below w3.heap.size w3 W4 ∧ Rec W4 w3.heap.size 29 #[.bool false, .slice none 0 0, .slice none 0 0] := by
        rw [← hW]; exact ⟨below1 _ _, Rec.new ..⟩
      have HB4 : Hid (Below u2.heap.size u2 W4) := b3.trans (X4.1.mono (B' := u2.heap.size) b3.size)
      have HR := hid X4.2
      obtain ⟨g5, hg5⟩ : ∃ g, g = w3.heap.size := ⟨_, rfl⟩
      rw [← hg5] at HR ⊢
      clear hW X4 hg5 b3 Hnew
      have HS4 : Hid (∀ w', Below W4.heap.size W4 w' → w'.cell? ⟨w.heap.size, 0, none⟩ = some (.bool a0) ∧ w'.cell? ⟨w.heap.size, 1, none⟩ = some (.slice a1 k0 a2) ∧ w'.cell? ⟨w.heap.size + 1, 0, none⟩ = some (.bool b0) ∧ w'.cell? ⟨w.heap.size + 1, 1, none⟩ = some (.slice b1 k1 b2) ∧
          w'.cell? ⟨g5, 2, none⟩ = some (.slice none 0 0) ∧ Below W4.heap.size W4 w') := by
        intro w' hb
        obtain ⟨q1, q2, q3, q4⟩ := HS.out w' (Below.go hb HB4.out)
        exact ⟨q1, q2, q3, q4, (HR.out.below hb).cell 2, hb⟩
      go_region_held3 (fun w' => w'.cell? ⟨w.heap.size, 0, none⟩ = some (.bool a0) ∧ w'.cell? ⟨w.heap.size, 1, none⟩ = some (.slice a1 k0 a2) ∧ w'.cell? ⟨w.heap.size + 1, 0, none⟩ = some (.bool b0) ∧ w'.cell? ⟨w.heap.size + 1, 1, none⟩ = some (.slice b1 k1 b2) ∧
          w'.cell? ⟨g5, 2, none⟩ = some (.slice none 0 0) ∧ Below W4.heap.size W4 w')
        (first | exact HS4.out _ (Below.drew (Below.refl _ _)) | (refine HS4.out _ (Below.go hb ?_); go_split_ands; assumption))
        (first
          | (go_at_call 13; refine (HOf.out _ (Below.go (by go_split_ands; assumption) HB4.out)).mono ?_; rintro e wa ⟨v5, rfl, i5, hb⟩)
          | (go_at_call 14; refine (HOf2.out _ (Below.go (by go_split_ands; assumption) HB4.out)).mono ?_; rintro e wb ⟨v6, rfl, i6, hb⟩; have i5 := i5.below hb)
          | (go_at_call 12; refine (QSame_told _ _ _ _ i5 i6).mono ?_; rintro e wc ⟨rfl, hb⟩))
      rename_i hHeld
      go_split_ands
      have HBc := hid (show Below W4.heap.size W4 wc by assumption)
      clear hb
      go_wp2_with fail
      refine (Hsg0.out _ (Below.go HBc.out HB4.out)).mono ?_
      rintro e wd ⟨rfl, hb⟩
      have HBd := hid (Below.go hb HBc.out)
      have hk := HS4.out _ HBd.out
      clear hb
      go_split_ands
      go_wp2_with fail
      go_ret
      exact ⟨rfl, bw2.out.trans ((Below.go HBd.out HB4.out).mono (B' := w.heap.size) bw2.out.size)⟩
    · have Hnew : Hid (∀ w', Below u2.heap.size u2 w' → Calls Try.prog 11 #[.agg #[.bool a0, .slice a1 k0 a2], .agg #[.bool b0, .slice b1 k1 b2]] w' (RSome (Rat.divInt p q) w')) := fun w' hb => QNew_some _ _ p q w' (HP.out.below hb) (HQ.out.below hb) hq0
      have Hmk : Hid (∀ w', Below u2.heap.size u2 w' → Calls Try.prog 16 #[.agg #[.bool a0, .slice a1 k0 a2], .agg #[.bool b0, .slice b1 k1 b2]] w' (RRat (Rat.divInt p q) w')) := fun w' hb => Make_any _ _ p q w' (HP.out.below hb) (HQ.out.below hb) hq0 (by omega) (by omega)
      have hs : (q.sign == 0) = false := beq_eq_false_iff_ne.2 (fun e => hq0 (Int.sign_eq_zero_iff_zero.1 e))
      clear hq0
      go_wp2_with fail
      refine (Hnew.out _ (Below.refl _ _)).mono ?_
      rintro e w3 ⟨v3, rfl, i3, b3⟩
      have i3p := i3.parts
      obtain ⟨f0, f1, f2, f3, f4, f5, f6, rfl, i3⟩ := i3p
      go_upto_region 6 with fail
      generalize hW : World.alloc w3 _ = W4
      have X4 : Below w3.heap.size w3 W4 ∧ Rec W4 w3.heap.size 29 #[.bool f0, .slice f1 f2 f3, .slice f4 f5 f6] := by
        rw [← hW]; exact ⟨below1 _ _, Rec.new ..⟩
      have HB4 : Hid (Below u2.heap.size u2 W4) := b3.trans (X4.1.mono (B' := u2.heap.size) b3.size)
      have HR := hid X4.2
      have HI := hid (i3.below X4.1)
      obtain ⟨g5, hg5⟩ : ∃ g, g = w3.heap.size := ⟨_, rfl⟩
      rw [← hg5] at HR ⊢
      clear hW X4 hg5 b3 Hnew i3
      have HS4 : Hid (∀ w', Below W4.heap.size W4 w' → w'.cell? ⟨w.heap.size, 0, none⟩ = some (.bool a0) ∧ w'.cell? ⟨w.heap.size, 1, none⟩ = some (.slice a1 k0 a2) ∧ w'.cell? ⟨w.heap.size + 1, 0, none⟩ = some (.bool b0) ∧ w'.cell? ⟨w.heap.size + 1, 1, none⟩ = some (.slice b1 k1 b2) ∧
          w'.cell? ⟨g5, 0, none⟩ = some (.bool f0) ∧ w'.cell? ⟨g5, 1, none⟩ = some (.slice f1 f2 f3) ∧ w'.cell? ⟨g5, 2, none⟩ = some (.slice f4 f5 f6) ∧ Below W4.heap.size W4 w') := by
        intro w' hb
        obtain ⟨q1, q2, q3, q4⟩ := HS.out w' (Below.go hb HB4.out)
        have a := cells3 (HR.out.below hb)
        exact ⟨q1, q2, q3, q4, a.1, a.2.1, a.2.2, hb⟩
      go_region_held3 (fun w' => w'.cell? ⟨w.heap.size, 0, none⟩ = some (.bool a0) ∧ w'.cell? ⟨w.heap.size, 1, none⟩ = some (.slice a1 k0 a2) ∧ w'.cell? ⟨w.heap.size + 1, 0, none⟩ = some (.bool b0) ∧ w'.cell? ⟨w.heap.size + 1, 1, none⟩ = some (.slice b1 k1 b2) ∧
          w'.cell? ⟨g5, 0, none⟩ = some (.bool f0) ∧ w'.cell? ⟨g5, 1, none⟩ = some (.slice f1 f2 f3) ∧ w'.cell? ⟨g5, 2, none⟩ = some (.slice f4 f5 f6) ∧ Below W4.heap.size W4 w')
        (first | exact HS4.out _ (Below.drew (Below.refl _ _)) | (refine HS4.out _ (Below.go hb ?_); go_split_ands; assumption))
        (first
          | (go_at_call 13; refine (HOf.out _ (Below.go (by go_split_ands; assumption) HB4.out)).mono ?_; rintro e wa ⟨v5, rfl, i5, hb⟩)
          | (go_at_call 14; refine (HOf2.out _ (Below.go (by go_split_ands; assumption) HB4.out)).mono ?_; rintro e wb ⟨v6, rfl, i6, hb⟩; have i5 := i5.below hb)
          | (go_at_call 12; refine (QSame_told _ _ _ _ i5 i6).mono ?_; rintro e wc ⟨rfl, hb⟩))
      rename_i hHeld
      go_split_ands
      have HBc := hid (show Below W4.heap.size W4 wc by assumption)
      clear hb
      go_wp2_with fail
      refine (Hsg.out _ (Below.go HBc.out HB4.out)).mono ?_
      rintro e wd ⟨rfl, hb⟩
      have HBd := hid (Below.go hb HBc.out)
      clear hb
      go_upto_region 10 with fail
      have HSd : Hid (∀ w', Below wd.heap.size wd w' → w'.cell? ⟨w.heap.size, 0, none⟩ = some (.bool a0) ∧ w'.cell? ⟨w.heap.size, 1, none⟩ = some (.slice a1 k0 a2) ∧ w'.cell? ⟨w.heap.size + 1, 0, none⟩ = some (.bool b0) ∧ w'.cell? ⟨w.heap.size + 1, 1, none⟩ = some (.slice b1 k1 b2) ∧
          w'.cell? ⟨g5, 0, none⟩ = some (.bool f0) ∧ w'.cell? ⟨g5, 1, none⟩ = some (.slice f1 f2 f3) ∧ w'.cell? ⟨g5, 2, none⟩ = some (.slice f4 f5 f6) ∧ Below wd.heap.size wd w') := by
        intro w' hb
        obtain ⟨q1, q2, q3, q4, q5, q6, q7, -⟩ := HS4.out w' (Below.go hb HBd.out)
        exact ⟨q1, q2, q3, q4, q5, q6, q7, hb⟩
      have HId := hid (HI.out.below HBd.out)
      have HBu := hid (Below.go HBd.out HB4.out)
      go_region_held3 (fun w' => w'.cell? ⟨w.heap.size, 0, none⟩ = some (.bool a0) ∧ w'.cell? ⟨w.heap.size, 1, none⟩ = some (.slice a1 k0 a2) ∧ w'.cell? ⟨w.heap.size + 1, 0, none⟩ = some (.bool b0) ∧ w'.cell? ⟨w.heap.size + 1, 1, none⟩ = some (.slice b1 k1 b2) ∧
          w'.cell? ⟨g5, 0, none⟩ = some (.bool f0) ∧ w'.cell? ⟨g5, 1, none⟩ = some (.slice f1 f2 f3) ∧ w'.cell? ⟨g5, 2, none⟩ = some (.slice f4 f5 f6) ∧ Below wd.heap.size wd w')
        (first | exact HSd.out _ (Below.drew (Below.refl _ _)) | (refine HSd.out _ (Below.go hb ?_); go_split_ands; assumption))
        (first
          | (go_at_call 16; refine (Hmk.out _ (Below.go (by go_split_ands; assumption) HBu.out)).mono ?_; rintro e we ⟨v8, rfl, i8, hb⟩)
          | (go_at_call 12; refine (QSame_told _ _ _ _ (HId.out.below (by go_split_ands; assumption)) i8).mono ?_; rintro e wf ⟨rfl, hb⟩))
      rename_i hHeld2
      go_split_ands
      have HBf := hid (show Below wd.heap.size wd wf by assumption)
      go_wp2_with fail
      go_ret
      exact ⟨rfl, bw2.out.trans ((Below.go HBf.out HBu.out).mono (B' := w.heap.size) bw2.out.size)⟩
  · have hrt : r = false := by rw [hr]; exact decide_eq_false hall
    rw [hrt] at Hfew
    clear hr hrt hall
    go_wp2_with fail
    refine Hfew.out.mono ?_
    rintro e u2 ⟨rfl, d2'⟩
    have bw2 := hid (bw.out.trans (((below1 _ _).trans (d2'.mono (B' := u1.heap.size) (by simp))).mono (B' := w.heap.size) bw.out.size))
    clear d2' Hfew
    go_wp2_with fail
    go_ret
    exact ⟨rfl, bw2.out⟩
end Go.Proofs.Yteiniokddopacaa
/- elenchuslaw02.RatioProducts answers true. -/
namespace Go.Proofs.Yteiniokddopacaa
open Go.RowKit Big

theorem sixc {w : World} {a b c d e f : Value} (t : TypeId) (j : Nat) : (w.alloc (.cells #[a, b, c, d, e, f] t)).cell? ⟨w.heap.size, j, none⟩ = #[a, b, c, d, e, f][j]? := cell_of_row _ _ j _ t (0, 0) (heap_alloc_new w _)

set_option maxRecDepth 100000 in
set_option maxHeartbeats 6400000 in
theorem lawRProducts_any (v0 v1 : Value) (k0 k1 d0 d1 : Nat) (w : World) (h0 : RatIn w v0 k0 d0) (h1 : RatIn w v1 k1 d1) :
    Calls Try.prog 5 #[v0, v1] w (RBool true w) := by
  have H0 := hid h0; have H1 := hid h1
  have m0 := h0.le; have m1 := h1.le
  obtain ⟨a0, a1, a2, a3, a4, -, -, rfl, -⟩ := h0
  obtain ⟨b0, b1, b2, b3, b4, -, -, rfl, -⟩ := h1
  have hf := fun o o' => fixed2_any ((w.alloc o).alloc o')
  have Hf := hid hf
  clear hf
  go_enter Try.func5, Try.ntmps5
  go_wp2_with fail
  refine (Hf.out _ _).mono ?_
  rintro e u1 ⟨rfl, g1⟩
  have ra := ((Rec.new w #[.bool a0, .slice a1 k0 a2, .slice a3 d0 a4] 29).below (below1 _ (.cells #[.bool b0, .slice b1 k1 b2, .slice b3 d1 b4] 29))).below g1
  have rb := (Rec.new (w.alloc (.cells #[.bool a0, .slice a1 k0 a2, .slice a3 d0 a4] 29)) #[.bool b0, .slice b1 k1 b2, .slice b3 d1 b4] 29).below g1
  rw [size_alloc] at rb
  have bw := hid ((((below1 _ _).alloc (by simp) _) : Below w.heap.size w ((w.alloc (.cells #[.bool a0, .slice a1 k0 a2, .slice a3 d0 a4] 29)).alloc (.cells #[.bool b0, .slice b1 k1 b2, .slice b3 d1 b4] 29))).trans (g1.mono (B' := w.heap.size) (by simp; omega)))
  have HS0 : Hid (∀ w', Below u1.heap.size u1 w' → w'.cell? ⟨w.heap.size, 0, none⟩ = some (.bool a0) ∧ w'.cell? ⟨w.heap.size, 1, none⟩ = some (.slice a1 k0 a2) ∧ w'.cell? ⟨w.heap.size, 2, none⟩ = some (.slice a3 d0 a4) ∧ w'.cell? ⟨w.heap.size + 1, 0, none⟩ = some (.bool b0) ∧ w'.cell? ⟨w.heap.size + 1, 1, none⟩ = some (.slice b1 k1 b2) ∧ w'.cell? ⟨w.heap.size + 1, 2, none⟩ = some (.slice b3 d1 b4)) := by
    intro w' hb
    have xa := cells3 (ra.below hb); have xb := cells3 (rb.below hb)
    exact ⟨xa.1, xa.2.1, xa.2.2, xb.1, xb.2.1, xb.2.2⟩
  obtain ⟨r, hr⟩ : ∃ r, r = decide ((k0 ≤ 4 ∧ d0 ≤ 4) ∧ (k1 ≤ 4 ∧ d1 ≤ 4)) := ⟨_, rfl⟩
  have hfew := few_any u1.heap.size 2 2 (fun | 0 => k0 | _ => k1) (fun | 0 => d0 | _ => d1) r (u1.alloc (.cells #[.bool a0, .slice a1 k0 a2, .slice a3 d0 a4, .bool b0, .slice b1 k1 b2, .slice b3 d1 b4] 29))
    (fun i hi => by
      match i, hi with
      | 0, _ => exact ⟨a0, a1, a2, a3, a4, sixc _ 0, sixc _ 1, sixc _ 2⟩
      | 1, _ => exact ⟨b0, b1, b2, b3, b4, sixc _ 3, sixc _ 4, sixc _ 5⟩)
    (by decide) (by simp) (fun i hi => by
      match i, hi with
      | 0, _ => exact m0
      | 1, _ => exact m1)
    (by
      rw [hr, decide_eq_true_iff]
      constructor
      · intro h i hi
        match i, hi with
        | 0, _ => exact h.1
        | 1, _ => exact h.2
      · intro h
        exact ⟨h 0 (by decide), h 1 (by decide)⟩)
  have Hfew := hid hfew
  have hcells := HS0.out _ (Below.refl _ _)
  clear hfew g1 ra rb m0 m1 Hf
  go_split_ands
  by_cases hall : (k0 ≤ 4 ∧ d0 ≤ 4) ∧ (k1 ≤ 4 ∧ d1 ≤ 4)
  · have hrt : r = true := by rw [hr]; exact decide_eq_true hall
    rw [hrt] at Hfew
    clear hr hrt
    obtain ⟨⟨hk0, hd0⟩, ⟨hk1, hd1⟩⟩ := hall
    go_wp2_with fail
    refine Hfew.out.mono ?_
    rintro e u2 ⟨rfl, d2'⟩
    have b12 : Below u1.heap.size u1 u2 := (below1 _ _).trans (d2'.mono (B' := u1.heap.size) (by simp))
    have bw2 := hid (bw.out.trans (b12.mono (B' := w.heap.size) bw.out.size))
    obtain ⟨x, hx⟩ := (H0.out.below bw2.out).q hk0 hd0
    obtain ⟨y, hy⟩ := (H1.out.below bw2.out).q hk1 hd1
    have HX := hid hx; have HY := hid hy; have B12 := hid b12
    have hk := HS0.out _ b12
    have HS : Hid (∀ w', Below u2.heap.size u2 w' → w'.cell? ⟨w.heap.size, 0, none⟩ = some (.bool a0) ∧ w'.cell? ⟨w.heap.size, 1, none⟩ = some (.slice a1 k0 a2) ∧ w'.cell? ⟨w.heap.size, 2, none⟩ = some (.slice a3 d0 a4) ∧ w'.cell? ⟨w.heap.size + 1, 0, none⟩ = some (.bool b0) ∧ w'.cell? ⟨w.heap.size + 1, 1, none⟩ = some (.slice b1 k1 b2) ∧ w'.cell? ⟨w.heap.size + 1, 2, none⟩ = some (.slice b3 d1 b4)) := fun w' hb => HS0.out w' (Below.go hb B12.out)
    have HMul : Hid (∀ w', Below u2.heap.size u2 w' → Calls Try.prog 26 #[.agg #[.bool a0, .slice a1 k0 a2, .slice a3 d0 a4], .agg #[.bool b0, .slice b1 k1 b2, .slice b3 d1 b4]] w' (RRat (x * y) w')) := fun w' hb => QMul_in ((HX.out.below hb).mono (by decide)) ((HY.out.below hb).mono (by decide))
    have HMul2 : Hid (∀ w', Below u2.heap.size u2 w' → Calls Try.prog 27 #[.agg #[.bool a0, .slice a1 k0 a2, .slice a3 d0 a4], .agg #[.bool b0, .slice b1 k1 b2, .slice b3 d1 b4]] w' (RRat (x * y) w')) := fun w' hb => RMul2_in ((HX.out.below hb).mono (by decide)) ((HY.out.below hb).mono (by decide))
    have Hsg : Hid (∀ w', Below u2.heap.size u2 w' → Calls Try.prog 24 #[.agg #[.bool b0, .slice b1 k1 b2, .slice b3 d1 b4]] w' (RNum .i64 (cq y 0) w')) := fun w' hb => RSign2_in (HY.out.below hb)
    clear d2' Hfew b12 hx hy hk0 hk1 hd0 hd1 H0 H1 bw HS0
    go_split_ands
    by_cases hy0 : y = 0
    · have Hnew : Hid (∀ w', Below u2.heap.size u2 w' → Calls Try.prog 25 #[.agg #[.bool a0, .slice a1 k0 a2, .slice a3 d0 a4], .agg #[.bool b0, .slice b1 k1 b2, .slice b3 d1 b4]] w' (RNone w')) := fun w' hb => QDiv_in0 ((HX.out.below hb).mono (by decide)) ((hy0 ▸ HY.out.below hb).mono (by decide))
      have Hsg0 : Hid (∀ w', Below u2.heap.size u2 w' → Calls Try.prog 24 #[.agg #[.bool b0, .slice b1 k1 b2, .slice b3 d1 b4]] w' (RNum .i64 0 w')) := fun w' hb => by
        have := Hsg.out w' hb
        rwa [hy0, cq_self] at this
      clear hy0 Hsg
      go_wp2_with fail
      refine (Hnew.out _ (Below.refl _ _)).mono ?_
      rintro e w3 ⟨rfl, b3⟩
      go_upto_region 6 with fail
      generalize hW : World.alloc w3 _ = W4
      have X4 : Below w3.heap.size w3 W4 ∧ Rec W4 w3.heap.size 29 #[.bool false, .slice none 0 0, .slice none 0 0] := by
        rw [← hW]; exact ⟨below1 _ _, Rec.new ..⟩
      have HB4 : Hid (Below u2.heap.size u2 W4) := b3.trans (X4.1.mono (B' := u2.heap.size) b3.size)
      have HR := hid X4.2
      obtain ⟨g5, hg5⟩ : ∃ g, g = w3.heap.size := ⟨_, rfl⟩
      rw [← hg5] at HR ⊢
      clear hW X4 hg5 b3 Hnew
      have HS4 : Hid (∀ w', Below W4.heap.size W4 w' → w'.cell? ⟨w.heap.size, 0, none⟩ = some (.bool a0) ∧ w'.cell? ⟨w.heap.size, 1, none⟩ = some (.slice a1 k0 a2) ∧ w'.cell? ⟨w.heap.size, 2, none⟩ = some (.slice a3 d0 a4) ∧ w'.cell? ⟨w.heap.size + 1, 0, none⟩ = some (.bool b0) ∧ w'.cell? ⟨w.heap.size + 1, 1, none⟩ = some (.slice b1 k1 b2) ∧ w'.cell? ⟨w.heap.size + 1, 2, none⟩ = some (.slice b3 d1 b4) ∧ w'.cell? ⟨g5, 2, none⟩ = some (.slice none 0 0) ∧ Below W4.heap.size W4 w') := by
        intro w' hb
        obtain ⟨q1, q2, q3, q4, q5, q6⟩ := HS.out w' (Below.go hb HB4.out)
        exact ⟨q1, q2, q3, q4, q5, q6, (HR.out.below hb).cell 2, hb⟩
      go_region_held3 (fun w' => w'.cell? ⟨w.heap.size, 0, none⟩ = some (.bool a0) ∧ w'.cell? ⟨w.heap.size, 1, none⟩ = some (.slice a1 k0 a2) ∧ w'.cell? ⟨w.heap.size, 2, none⟩ = some (.slice a3 d0 a4) ∧ w'.cell? ⟨w.heap.size + 1, 0, none⟩ = some (.bool b0) ∧ w'.cell? ⟨w.heap.size + 1, 1, none⟩ = some (.slice b1 k1 b2) ∧ w'.cell? ⟨w.heap.size + 1, 2, none⟩ = some (.slice b3 d1 b4) ∧ w'.cell? ⟨g5, 2, none⟩ = some (.slice none 0 0) ∧ Below W4.heap.size W4 w')
        (first | exact HS4.out _ (Below.drew (Below.refl _ _)) | (refine HS4.out _ (Below.go hb ?_); go_split_ands; assumption))
        (first
          | (go_at_call 26; refine (HMul.out _ (Below.go (by go_split_ands; assumption) HB4.out)).mono ?_; rintro e wa ⟨v5, rfl, i5, hb⟩)
          | (go_at_call 27; refine (HMul2.out _ (Below.go (by go_split_ands; assumption) HB4.out)).mono ?_; rintro e wb ⟨v6, rfl, i6, hb⟩; have i5 := i5.below hb)
          | (go_at_call 12; refine (QSame_told _ _ _ _ i5 i6).mono ?_; rintro e wc ⟨rfl, hb⟩))
      rename_i hHeld
      go_split_ands
      have HBc := hid (show Below W4.heap.size W4 wc by assumption)
      clear hb
      go_wp2_with fail
      refine (Hsg0.out _ (Below.go HBc.out HB4.out)).mono ?_
      rintro e wd ⟨rfl, hb⟩
      have HBd := hid (Below.go hb HBc.out)
      have hk := HS4.out _ HBd.out
      clear hb
      go_split_ands
      go_wp2_with fail
      go_ret
      exact ⟨rfl, bw2.out.trans ((Below.go HBd.out HB4.out).mono (B' := w.heap.size) bw2.out.size)⟩
    · have Hnew : Hid (∀ w', Below u2.heap.size u2 w' → Calls Try.prog 25 #[.agg #[.bool a0, .slice a1 k0 a2, .slice a3 d0 a4], .agg #[.bool b0, .slice b1 k1 b2, .slice b3 d1 b4]] w' (RSome (x / y) w')) := fun w' hb => QDiv_in ((HX.out.below hb).mono (by decide)) ((HY.out.below hb).mono (by decide)) hy0
      have Hmk : Hid (∀ w', Below u2.heap.size u2 w' → Calls Try.prog 28 #[.agg #[.bool a0, .slice a1 k0 a2, .slice a3 d0 a4], .agg #[.bool b0, .slice b1 k1 b2, .slice b3 d1 b4]] w' (RRat (x / y) w')) := fun w' hb => RDiv2_in ((HX.out.below hb).mono (by decide)) ((HY.out.below hb).mono (by decide)) hy0
      have hs : (cq y 0 == 0) = false := beq_eq_false_iff_ne.2 (fun e => hy0 (cq_zero e))
      clear hy0
      generalize cq y 0 = sy at *
      go_wp2_with fail
      refine (Hnew.out _ (Below.refl _ _)).mono ?_
      rintro e w3 ⟨v3, rfl, i3, b3⟩
      have i3p := i3.parts
      obtain ⟨f0, f1, f2, f3, f4, f5, f6, rfl, i3⟩ := i3p
      go_upto_region 6 with fail
      generalize hW : World.alloc w3 _ = W4
      have X4 : Below w3.heap.size w3 W4 ∧ Rec W4 w3.heap.size 29 #[.bool f0, .slice f1 f2 f3, .slice f4 f5 f6] := by
        rw [← hW]; exact ⟨below1 _ _, Rec.new ..⟩
      have HB4 : Hid (Below u2.heap.size u2 W4) := b3.trans (X4.1.mono (B' := u2.heap.size) b3.size)
      have HR := hid X4.2
      have HI := hid (i3.below X4.1)
      obtain ⟨g5, hg5⟩ : ∃ g, g = w3.heap.size := ⟨_, rfl⟩
      rw [← hg5] at HR ⊢
      clear hW X4 hg5 b3 Hnew i3
      have HS4 : Hid (∀ w', Below W4.heap.size W4 w' → w'.cell? ⟨w.heap.size, 0, none⟩ = some (.bool a0) ∧ w'.cell? ⟨w.heap.size, 1, none⟩ = some (.slice a1 k0 a2) ∧ w'.cell? ⟨w.heap.size, 2, none⟩ = some (.slice a3 d0 a4) ∧ w'.cell? ⟨w.heap.size + 1, 0, none⟩ = some (.bool b0) ∧ w'.cell? ⟨w.heap.size + 1, 1, none⟩ = some (.slice b1 k1 b2) ∧ w'.cell? ⟨w.heap.size + 1, 2, none⟩ = some (.slice b3 d1 b4) ∧ w'.cell? ⟨g5, 0, none⟩ = some (.bool f0) ∧ w'.cell? ⟨g5, 1, none⟩ = some (.slice f1 f2 f3) ∧ w'.cell? ⟨g5, 2, none⟩ = some (.slice f4 f5 f6) ∧ Below W4.heap.size W4 w') := by
        intro w' hb
        obtain ⟨q1, q2, q3, q4, q5, q6⟩ := HS.out w' (Below.go hb HB4.out)
        have a := cells3 (HR.out.below hb)
        exact ⟨q1, q2, q3, q4, q5, q6, a.1, a.2.1, a.2.2, hb⟩
      go_region_held3 (fun w' => w'.cell? ⟨w.heap.size, 0, none⟩ = some (.bool a0) ∧ w'.cell? ⟨w.heap.size, 1, none⟩ = some (.slice a1 k0 a2) ∧ w'.cell? ⟨w.heap.size, 2, none⟩ = some (.slice a3 d0 a4) ∧ w'.cell? ⟨w.heap.size + 1, 0, none⟩ = some (.bool b0) ∧ w'.cell? ⟨w.heap.size + 1, 1, none⟩ = some (.slice b1 k1 b2) ∧ w'.cell? ⟨w.heap.size + 1, 2, none⟩ = some (.slice b3 d1 b4) ∧ w'.cell? ⟨g5, 0, none⟩ = some (.bool f0) ∧ w'.cell? ⟨g5, 1, none⟩ = some (.slice f1 f2 f3) ∧ w'.cell? ⟨g5, 2, none⟩ = some (.slice f4 f5 f6) ∧ Below W4.heap.size W4 w')
        (first | exact HS4.out _ (Below.drew (Below.refl _ _)) | (refine HS4.out _ (Below.go hb ?_); go_split_ands; assumption))
        (first
          | (go_at_call 26; refine (HMul.out _ (Below.go (by go_split_ands; assumption) HB4.out)).mono ?_; rintro e wa ⟨v5, rfl, i5, hb⟩)
          | (go_at_call 27; refine (HMul2.out _ (Below.go (by go_split_ands; assumption) HB4.out)).mono ?_; rintro e wb ⟨v6, rfl, i6, hb⟩; have i5 := i5.below hb)
          | (go_at_call 12; refine (QSame_told _ _ _ _ i5 i6).mono ?_; rintro e wc ⟨rfl, hb⟩))
      rename_i hHeld
      go_split_ands
      have HBc := hid (show Below W4.heap.size W4 wc by assumption)
      clear hb
      go_wp2_with fail
      refine (Hsg.out _ (Below.go HBc.out HB4.out)).mono ?_
      rintro e wd ⟨rfl, hb⟩
      have HBd := hid (Below.go hb HBc.out)
      clear hb
      go_upto_region 10 with fail
      have HSd : Hid (∀ w', Below wd.heap.size wd w' → w'.cell? ⟨w.heap.size, 0, none⟩ = some (.bool a0) ∧ w'.cell? ⟨w.heap.size, 1, none⟩ = some (.slice a1 k0 a2) ∧ w'.cell? ⟨w.heap.size, 2, none⟩ = some (.slice a3 d0 a4) ∧ w'.cell? ⟨w.heap.size + 1, 0, none⟩ = some (.bool b0) ∧ w'.cell? ⟨w.heap.size + 1, 1, none⟩ = some (.slice b1 k1 b2) ∧ w'.cell? ⟨w.heap.size + 1, 2, none⟩ = some (.slice b3 d1 b4) ∧ w'.cell? ⟨g5, 0, none⟩ = some (.bool f0) ∧ w'.cell? ⟨g5, 1, none⟩ = some (.slice f1 f2 f3) ∧ w'.cell? ⟨g5, 2, none⟩ = some (.slice f4 f5 f6) ∧ Below wd.heap.size wd w') := by
        intro w' hb
        obtain ⟨q1, q2, q3, q4, q5, q6, q7, q8, q9, -⟩ := HS4.out w' (Below.go hb HBd.out)
        exact ⟨q1, q2, q3, q4, q5, q6, q7, q8, q9, hb⟩
      have HId := hid (HI.out.below HBd.out)
      have HBu := hid (Below.go HBd.out HB4.out)
      go_region_held3 (fun w' => w'.cell? ⟨w.heap.size, 0, none⟩ = some (.bool a0) ∧ w'.cell? ⟨w.heap.size, 1, none⟩ = some (.slice a1 k0 a2) ∧ w'.cell? ⟨w.heap.size, 2, none⟩ = some (.slice a3 d0 a4) ∧ w'.cell? ⟨w.heap.size + 1, 0, none⟩ = some (.bool b0) ∧ w'.cell? ⟨w.heap.size + 1, 1, none⟩ = some (.slice b1 k1 b2) ∧ w'.cell? ⟨w.heap.size + 1, 2, none⟩ = some (.slice b3 d1 b4) ∧ w'.cell? ⟨g5, 0, none⟩ = some (.bool f0) ∧ w'.cell? ⟨g5, 1, none⟩ = some (.slice f1 f2 f3) ∧ w'.cell? ⟨g5, 2, none⟩ = some (.slice f4 f5 f6) ∧ Below wd.heap.size wd w')
        (first | exact HSd.out _ (Below.drew (Below.refl _ _)) | (refine HSd.out _ (Below.go hb ?_); go_split_ands; assumption))
        (first
          | (go_at_call 28; refine (Hmk.out _ (Below.go (by go_split_ands; assumption) HBu.out)).mono ?_; rintro e we ⟨v8, rfl, i8, hb⟩)
          | (go_at_call 12; refine (QSame_told _ _ _ _ (HId.out.below (by go_split_ands; assumption)) i8).mono ?_; rintro e wf ⟨rfl, hb⟩))
      rename_i hHeld2
      go_split_ands
      have HBf := hid (show Below wd.heap.size wd wf by assumption)
      go_wp2_with fail
      go_ret
      exact ⟨rfl, bw2.out.trans ((Below.go HBf.out HBu.out).mono (B' := w.heap.size) bw2.out.size)⟩
  · have hrt : r = false := by rw [hr]; exact decide_eq_false hall
    rw [hrt] at Hfew
    clear hr hrt hall
    go_wp2_with fail
    refine Hfew.out.mono ?_
    rintro e u2 ⟨rfl, d2'⟩
    have bw2 := hid (bw.out.trans (((below1 _ _).trans (d2'.mono (B' := u1.heap.size) (by simp))).mono (B' := w.heap.size) bw.out.size))
    clear d2' Hfew
    go_wp2_with fail
    go_ret
    exact ⟨rfl, bw2.out⟩
end Go.Proofs.Yteiniokddopacaa
