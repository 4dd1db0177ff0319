/- elenchuslaw01.fixed answers true. -/
import Derived.Test.YtlicmnlllappnaaDoorDiv
import Derived.Test.YtlicmnlllappnaaDoorParseBad
import Derived.Test.YtlicmnlllappnaaDoorWholeSub
namespace Go.Proofs.YtlicmnlllappnaaDoor
open Go.RowKit Big

theorem IntAt.any {w : World} {v : Value} {z : Int} (h : IntAt w v z) : ∃ b p n c, v = .agg #[.bool b, .slice p n c] ∧ IntAt w (.agg #[.bool b, .slice p n c]) z := by
  obtain ⟨p, n, c, hv, hi⟩ := h.shape
  exact ⟨_, p, n, c, hv, hi⟩
theorem smallRaw {w : World} {v : Value} {z : Int} (h : IntAt w v z) (hz : z.natAbs < W) : RawAt w v z := h.raw (Nat.le_trans (sz_word hz) (by omega))
theorem DivSmall_any (v0 v1 : Value) (a b : Int) (w : World) (h0 : IntAt w v0 a) (h1 : IntAt w v1 b) (ha : a.natAbs < W) (hb : b.natAbs < W) (hb0 : b ≠ 0) :
    Calls Tryd.prog 25 #[v0, v1] w (RDiv (a / b) (a % b) 0 w) :=
  Div_of v0 v1 a b w (smallRaw h0 ha) (smallRaw h1 hb) hb0 fun W' u u' hu hu' => divide_small u u' _ _ W' hu hu' ha hb (by omega)
theorem Div_m7 (v0 v1 : Value) (w : World) (h0 : IntAt w v0 (-7)) (h1 : IntAt w v1 2) : Calls Tryd.prog 25 #[v0, v1] w (RDiv (-4) 1 0 w) :=
  DivSmall_any v0 v1 (-7) 2 w h0 h1 (by decide) (by decide) (by decide)
theorem Div_7 (v0 v1 : Value) (w : World) (h0 : IntAt w v0 7) (h1 : IntAt w v1 (-2)) : Calls Tryd.prog 25 #[v0, v1] w (RDiv (-3) 1 0 w) :=
  DivSmall_any v0 v1 7 (-2) w h0 h1 (by decide) (by decide) (by decide)
theorem print_1 (v : Value) (w : World) (h : IntAt w v 1) : Calls Tryd.prog 35 #[v] w (RStr [49] w) := by
  have := Print_small v false 1 w (smallRaw h (by decide)) (by decide) (by decide)
  rwa [show ((if false = true then [45] else []) ++ Lib.decDigits 1 : List UInt8) = [49] by decide +kernel] at this
theorem print_m3 (v : Value) (w : World) (h : IntAt w v (-3)) : Calls Tryd.prog 35 #[v] w (RStr [45, 51] w) := by
  have := Print_small v true 3 w (smallRaw h (by decide)) (by decide) (by decide)
  rwa [show ((if true = true then [45] else []) ++ Lib.decDigits 3 : List UInt8) = [45, 51] by decide +kernel] at this
theorem print_m4 (v : Value) (w : World) (h : IntAt w v (-4)) : Calls Tryd.prog 35 #[v] w (RStr [45, 52] w) := by
  have := Print_small v true 4 w (smallRaw h (by decide)) (by decide) (by decide)
  rwa [show ((if true = true then [45] else []) ++ Lib.decDigits 4 : List UInt8) = [45, 52] by decide +kernel] at this

/-- a variable that holds a whole number -/
def Var (w : World) (g : Nat) (b : Bool) (p : Option Addr) (n c : Nat) (z : Int) : Prop :=
  w.cell? ⟨g, 0, none⟩ = some (.bool b) ∧ w.cell? ⟨g, 1, none⟩ = some (.slice p n c) ∧ g < w.heap.size ∧ IntAt w (.agg #[.bool b, .slice p n c]) z
theorem Var.below {w w' : World} {g : Nat} {b : Bool} {p : Option Addr} {n c : Nat} {z : Int} (h : Var w g b p n c z) (hb : Below w.heap.size w w') : Var w' g b p n c z :=
  ⟨(hb.cell (p := ⟨g, 0, none⟩) h.2.2.1).trans h.1, (hb.cell (p := ⟨g, 1, none⟩) h.2.2.1).trans h.2.1, Nat.lt_of_lt_of_le h.2.2.1 hb.size, h.2.2.2.below hb⟩
theorem Var.new {w : World} {b : Bool} {p : Option Addr} {n c : Nat} {z : Int} {t : TypeId} (h : IntAt w (.agg #[.bool b, .slice p n c]) z) : Var (w.alloc (.cells #[.bool b, .slice p n c] t)) w.heap.size b p n c z :=
  ⟨(two_cells (heap_alloc_new w _)).1, (two_cells (heap_alloc_new w _)).2.1, by simp, h.below (below1 _ _)⟩
theorem Var.new1 {w : World} {o : Obj} {b : Bool} {p : Option Addr} {n c : Nat} {z : Int} {t : TypeId} (h : IntAt w (.agg #[.bool b, .slice p n c]) z) : Var ((w.alloc o).alloc (.cells #[.bool b, .slice p n c] t)) (w.heap.size + 1) b p n c z := by
  have := Var.new (t := t) (h.below (below1 w o))
  rwa [size_alloc] at this

set_option maxRecDepth 100000 in
set_option maxHeartbeats 1600000 in
theorem fixed_any (w : World) : Calls Tryd.prog 9 #[] w (RBool true w) := by
  go_enter Tryd.func9, Tryd.ntmps9
  go_wp2_with fail
  refine (Of_any (-7) _ (by decide) (by decide)).mono ?_
  rintro e w1 ⟨v1, rfl, i1, b1⟩
  go_wp2_with fail
  refine (Of_any 2 _ (by decide) (by decide)).mono ?_
  rintro e w2 ⟨v2, rfl, i2, b2⟩
  go_wp2_with fail
  refine (Div_m7 v1 v2 _ (i1.below b2) i2).mono ?_
  rintro e w3 ⟨q, r, rfl, iq, ir, b3⟩
  have bw3 := hid (b1.trans ((b2.mono (B' := w.heap.size) b1.size).trans (b3.mono (B' := w.heap.size) (Nat.le_trans b1.size b2.size))))
  obtain ⟨bq, pq, nq, cq, rfl, iq'⟩ := iq.any
  obtain ⟨br, pr, nr, cr, rfl, ir'⟩ := ir.any
  have Vq := (Var.new (t := 25) iq').below (below1 _ (.cells #[.bool br, .slice pr nr cr] 25))
  have Vr := Var.new1 (t := 25) (o := .cells #[.bool bq, .slice pq nq cq] 25) ir'
  have HVq := hid Vq; have HVr := hid Vr
  clear b1 b2 b3 i1 i2 iq ir iq' ir' Vq Vr
  go_wp2_with fail
  refine (Of_any 7 _ (by decide) (by decide)).mono ?_
  rintro e w4 ⟨v4, rfl, i4, b4⟩
  go_wp2_with fail
  refine (Of_any (-2) _ (by decide) (by decide)).mono ?_
  rintro e w5 ⟨v5, rfl, i5, b5⟩
  go_wp2_with fail
  refine (Div_7 v4 v5 _ (i4.below b5) i5).mono ?_
  rintro e w6 ⟨x, y, rfl, ix, iy, b6⟩
  have bw6 : Below w.heap.size w w6 := by
    have a := bw3.out
    have z := a.size
    have z4 := b4.size
    have z5 := b5.size
    simp at z4
    exact (((a.alloc (by omega) _).alloc (by simp; omega) _).trans (b4.mono (B' := w.heap.size) (by simp; omega))).trans ((b5.mono (B' := w.heap.size) (by omega)).trans (b6.mono (B' := w.heap.size) (by omega)))
  have Vq := ((HVq.out.below b4).below b5).below b6
  have Vr := ((HVr.out.below b4).below b5).below b6
  obtain ⟨bx, px, nx, cx, rfl, ix'⟩ := ix.any
  obtain ⟨by', py, ny, cy, rfl, iy'⟩ := iy.any
  have Vx := (Var.new (t := 25) ix').below (below1 _ (.cells #[.bool by', .slice py ny cy] 25))
  have Vy := Var.new1 (t := 25) (o := .cells #[.bool bx, .slice px nx cx] 25) iy'
  have b67 : Below w6.heap.size w6 ((w6.alloc (.cells #[.bool bx, .slice px nx cx] 25)).alloc (.cells #[.bool by', .slice py ny cy] 25)) := (below1 _ _).alloc (by simp) _
  have HVq' := hid (Vq.below b67); have HVr' := hid (Vr.below b67)
  have HVx := hid Vx; have HVy := hid Vy
  have bw7 := hid (bw6.trans (b67.mono (B' := w.heap.size) bw6.size))
  clear b4 b5 b6 i4 i5 ix iy ix' iy' Vq Vr Vx Vy HVq HVr bw3 bw6 b67
  go_wp2_with fail
  refine (Parse_bad _).mono ?_
  rintro e w8 ⟨z, rfl, iz, b8⟩
  obtain ⟨bz, pz, nz, cz, rfl, -⟩ := iz.any
  have b89 : ∀ o, Below w8.heap.size w8 (w8.alloc o) := fun o => below1 w8 o
  have Vq := hid (fun o => (HVq'.out.below b8).below (b89 o)); have Vr := hid (fun o => (HVr'.out.below b8).below (b89 o))
  have Vx := hid (fun o => (HVx.out.below b8).below (b89 o)); have Vy := hid (fun o => (HVy.out.below b8).below (b89 o))
  have bw9 := hid (fun o => (bw7.out.trans (b8.mono (B' := w.heap.size) bw7.out.size)).trans ((b89 o).mono (B' := w.heap.size) (Nat.le_trans bw7.out.size b8.size)))
  clear HVq' HVr' HVx HVy bw7 b8 b89 iz
  have q0 := (Vq.out (.cells #[.bool bz, .slice pz nz cz] 25)).1; have q1 := (Vq.out (.cells #[.bool bz, .slice pz nz cz] 25)).2.1
  go_wp2_with fail
  generalize hW : World.alloc w8 _ = W9
  have Vr9 := Vr.out (.cells #[.bool bz, .slice pz nz cz] 25)
  have Vx9 := Vx.out (.cells #[.bool bz, .slice pz nz cz] 25)
  have Vy9 := Vy.out (.cells #[.bool bz, .slice pz nz cz] 25)
  have Iq9 := (Vq.out (.cells #[.bool bz, .slice pz nz cz] 25)).2.2.2
  have bw10 := bw9.out (.cells #[.bool bz, .slice pz nz cz] 25)
  rw [hW] at Vr9 Vx9 Vy9 Iq9 bw10
  clear q0 q1 Vq Vr Vx Vy bw9 hW
  refine (print_m4 _ _ Iq9).mono ?_
  rintro e w10 ⟨rfl, b10⟩
  have Vr10 := Vr9.below b10; have Vx10 := Vx9.below b10; have Vy10 := Vy9.below b10
  have bw11 := bw10.trans (b10.mono (B' := w.heap.size) bw10.size)
  obtain ⟨d0, d1, -, Ir⟩ := Vr10
  clear Iq9 Vr9 Vx9 Vy9 b10 bw10
  have HVx := hid Vx10; have HVy := hid Vy10; have HIr := hid Ir; have Hbw := hid bw11
  clear Vx10 Vy10 Ir bw11
  go_wp2_with fail
  refine (print_1 _ _ HIr.out).mono ?_
  rintro e w11 ⟨rfl, b11⟩
  have Vx11 := HVx.out.below b11; have Vy11 := HVy.out.below b11
  have bw12 := Hbw.out.trans (b11.mono (B' := w.heap.size) Hbw.out.size)
  clear d0 d1 HIr HVx HVy Hbw b11
  obtain ⟨d0, d1, -, Ix⟩ := Vx11
  have HVy := hid Vy11; have HIx := hid Ix; have Hbw := hid bw12
  clear Vy11 Ix bw12
  go_wp2_with fail
  refine (print_m3 _ _ HIx.out).mono ?_
  rintro e w12 ⟨rfl, b12⟩
  have Vy12 := HVy.out.below b12
  have bw13 := Hbw.out.trans (b12.mono (B' := w.heap.size) Hbw.out.size)
  clear d0 d1 HIx HVy Hbw b12
  obtain ⟨d0, d1, -, Iy⟩ := Vy12
  have HIy := hid Iy; have Hbw := hid bw13
  clear Iy bw13
  go_wp2_with fail
  refine (print_1 _ _ HIy.out).mono ?_
  rintro e w13 ⟨rfl, b13⟩
  have bw14 := hid (Hbw.out.trans (b13.mono (B' := w.heap.size) Hbw.out.size))
  clear d0 d1 HIy Hbw b13
  go_wp2_with fail
  go_ret
  exact ⟨rfl, bw14.out⟩
end Go.Proofs.YtlicmnlllappnaaDoor
