/- Small facts on new blocks. -/
import Derived.Test.YtlicmnlllappnaaDoorOwn
namespace Go.Proofs.YtlicmnlllappnaaDoor
open Go.RowKit Big
theorem size_alloc (w : World) (o : Obj) : (w.alloc o).heap.size = w.heap.size + 1 := by simp
theorem heap_new1 (w : World) (o : Obj) : (w.alloc o).drew.heap[w.heap.size]? = some o := heap_alloc_new w o
theorem heap_new2 (w : World) (o1 o2 : Obj) : ((w.alloc o1).alloc o2).drew.heap[w.heap.size + 1]? = some o2 := by
  have := heap_alloc_new (w.alloc o1) o2
  rwa [size_alloc] at this
theorem heap_new3 (w : World) (o1 o2 o3 : Obj) : (((w.alloc o1).alloc o2).alloc o3).drew.heap[w.heap.size + 2]? = some o3 := by
  have := heap_alloc_new ((w.alloc o1).alloc o2) o3
  rwa [size_alloc, size_alloc] at this
theorem two_cells {w : World} {g : Nat} {a b : Value} {t : TypeId} (h : w.heap[g]? = some (.cells #[a, b] t (0, 0))) :
    w.cell? ⟨g, 0, none⟩ = some a ∧ w.cell? ⟨g, 1, none⟩ = some b ∧ w.frozen? ⟨g, 0, none⟩ = false ∧ w.frozen? ⟨g, 1, none⟩ = false :=
  ⟨by rw [cell_of_row w g 0 _ t (0, 0) h]; rfl, by rw [cell_of_row w g 1 _ t (0, 0) h]; rfl, frozen_of_row w g 0 _ t h, frozen_of_row w g 1 _ t h⟩
/-- block g is a variable that holds a whole number: a bool and a slice -/
def Pair (w : World) (g : Nat) (t : TypeId) : Prop := ∃ x p n c, w.heap[g]? = some (.cells #[.bool x, .slice p n c] t (0, 0))
theorem Pair.cells {w : World} {g : Nat} {t : TypeId} (h : Pair w g t) : ∃ a b, w.cell? ⟨g, 0, none⟩ = some a ∧ w.cell? ⟨g, 1, none⟩ = some b ∧ w.frozen? ⟨g, 0, none⟩ = false ∧ w.frozen? ⟨g, 1, none⟩ = false := by
  obtain ⟨x, p, n, c, h⟩ := h
  exact ⟨_, _, two_cells h⟩
theorem Pair.below {w w' : World} {g : Nat} {t : TypeId} (h : Pair w g t) (hb : Below w.heap.size w w') : Pair w' g t := by
  obtain ⟨x, p, n, c, h⟩ := h
  exact ⟨x, p, n, c, (hb.block g (Array.getElem?_eq_some_iff.1 h).1).trans h⟩
theorem Pair.lt {w : World} {g : Nat} {t : TypeId} (h : Pair w g t) : g < w.heap.size := by
  obtain ⟨x, p, n, c, h⟩ := h
  exact (Array.getElem?_eq_some_iff.1 h).1
theorem Pair.set0 {w : World} {g : Nat} {t : TypeId} (h : Pair w g t) (x : Bool) : Pair (w.setCell ⟨g, 0, none⟩ (.bool x)) g t := by
  obtain ⟨y, p, n, c, h⟩ := h
  exact ⟨x, p, n, c, heap_setCell_same w g 0 _ t _ h⟩
theorem Pair.set1 {w : World} {g : Nat} {t : TypeId} (h : Pair w g t) (p : Option Addr) (n c : Nat) : Pair (w.setCell ⟨g, 1, none⟩ (.slice p n c)) g t := by
  obtain ⟨y, p', n', c', h⟩ := h
  exact ⟨y, p, n, c, heap_setCell_same w g 1 _ t _ h⟩
theorem Pair.drew {w : World} {g : Nat} {t : TypeId} (h : Pair w g t) : Pair w.drew g t := h
theorem Pair.new (w : World) (x : Bool) (p : Option Addr) (n c : Nat) (t : TypeId) : Pair (w.alloc (.cells #[.bool x, .slice p n c] t)) w.heap.size t := ⟨x, p, n, c, heap_alloc_new w _⟩
theorem Pair.new1 (w : World) (o : Obj) (x : Bool) (p : Option Addr) (n c : Nat) (t : TypeId) : Pair ((w.alloc o).alloc (.cells #[.bool x, .slice p n c] t)) (w.heap.size + 1) t := by
  have := Pair.new (w.alloc o) x p n c t
  rwa [size_alloc] at this
theorem Pair.new2 (w : World) (o o' : Obj) (x : Bool) (p : Option Addr) (n c : Nat) (t : TypeId) : Pair (((w.alloc o).alloc o').alloc (.cells #[.bool x, .slice p n c] t)) (w.heap.size + 2) t := by
  have := Pair.new ((w.alloc o).alloc o') x p n c t
  rwa [size_alloc, size_alloc] at this
theorem Pair.new3 (w : World) (o o' o'' : Obj) (x : Bool) (p : Option Addr) (n c : Nat) (t : TypeId) : Pair ((((w.alloc o).alloc o').alloc o'').alloc (.cells #[.bool x, .slice p n c] t)) (w.heap.size + 1 + 1 + 1) t := by
  have := Pair.new (((w.alloc o).alloc o').alloc o'') x p n c t
  rwa [size_alloc, size_alloc, size_alloc] at this
/-- a store into such a variable turns no slice of numbers -/
theorem At.set {w : World} {k : IntKind} {v : Value} {l : List Nat} {g : Nat} {t : TypeId} (h : At w k v l) (hp : Pair w g t) (j : Nat) (u : Value) : At (w.setCell ⟨g, j, none⟩ u) k v l := by
  obtain ⟨p, cap, hv, h1, h2, h3, h4⟩ := h
  refine ⟨p, cap, hv, h1, h2, h3, fun hl => ?_⟩
  obtain ⟨b, off, h5, h6, h7⟩ := h4 hl
  have hne : b ≠ g := by
    rintro rfl
    obtain ⟨x, q, n, c, hh⟩ := hp
    have h0 := h7 0 hl
    rw [cell_of_row w b (off + 0) _ t (0, 0) hh] at h0
    rcases (by omega : off = 0 ∨ off = 1 ∨ 2 ≤ off) with e | e | e
    · subst e; simp at h0
    · subst e; simp at h0
    · rw [Array.getElem?_eq_none (by simpa using e)] at h0; cases h0
  refine ⟨b, off, h5, by simpa [World.setCell] using h6, fun i hi => ?_⟩
  rw [← h7 i hi]
  exact World.cell?_of_block (w := w) (Below.heap_setCell w _ u b hne)
theorem At.stored {w : World} {k : IntKind} {v : Value} {l : List Nat} {g : Nat} {t : TypeId} (h : At w k v l) (hp : Pair w g t) (x : Bool) (p : Option Addr) (n c : Nat) :
    At ((w.setCell ⟨g, 0, none⟩ (.bool x)).setCell ⟨g, 1, none⟩ (.slice p n c)) k v l := (h.set hp 0 _).set (hp.set0 x) 1 _
theorem IntAt.stored {w : World} {v : Value} {z : Int} {g : Nat} {t : TypeId} (h : IntAt w v z) (hp : Pair w g t) (x : Bool) (p : Option Addr) (n c : Nat) :
    IntAt ((w.setCell ⟨g, 0, none⟩ (.bool x)).setCell ⟨g, 1, none⟩ (.slice p n c)) v z := by
  obtain ⟨s, hs, ha⟩ := h
  exact ⟨s, hs, ha.stored hp x p n c⟩
theorem Below.stored {B : Nat} {w w' : World} (h : Below B w w') {g : Nat} (hg : B ≤ g) (u u' : Value) : Below B w ((w'.setCell ⟨g, 0, none⟩ u).setCell ⟨g, 1, none⟩ u') :=
  (h.setCell (p := ⟨g, 0, none⟩) hg u).setCell (p := ⟨g, 1, none⟩) hg u'
theorem IntAt.shape {w : World} {v : Value} {z : Int} (h : IntAt w v z) : ∃ p n c, v = .agg #[.bool (decide (z < 0)), .slice p n c] ∧ IntAt w (.agg #[.bool (decide (z < 0)), .slice p n c]) z := by
  obtain ⟨s, rfl, p, c, rfl, r⟩ := h
  exact ⟨p, _, c, rfl, _, rfl, p, c, rfl, r⟩
theorem At.oneI (w : World) (k : IntKind) (e : Int) (x : Nat) (t : TypeId) (h : e = (x : Int)) : At (w.alloc (.cells #[.int k e] t)) k (.slice (some ⟨w.heap.size, 0, none⟩) 1 1) [x] := by
  subst h; exact At.one w k x t
theorem cell_stored (w : World) {g : Nat} {p : Addr} (h : p.block ≠ g) (u u' : Value) : ((w.setCell ⟨g, 0, none⟩ u).setCell ⟨g, 1, none⟩ u').cell? p = w.cell? p :=
  World.cell?_of_block (w := w) ((Below.heap_setCell _ _ _ _ h).trans (Below.heap_setCell _ _ _ _ h))
/-- the cells of two variables that a call has laid for its arguments -/
structure Two (w : World) (g : Nat) (a b c d : Value) : Prop where
  c00 : w.cell? ⟨g, 0, none⟩ = some a
  c01 : w.cell? ⟨g, 1, none⟩ = some b
  c10 : w.cell? ⟨g + 1, 0, none⟩ = some c
  c11 : w.cell? ⟨g + 1, 1, none⟩ = some d
  lt : g + 2 ≤ w.heap.size
theorem Two.new (w : World) (a b c d : Value) (t : TypeId) : Two ((w.alloc (.cells #[a, b] t)).alloc (.cells #[c, d] t)) w.heap.size a b c d := by
  have h0 : ((w.alloc (.cells #[a, b] t)).alloc (.cells #[c, d] t)).heap[w.heap.size]? = some (.cells #[a, b] t (0, 0)) := by
    rw [heap_alloc_old _ _ (by simp)]; exact heap_alloc_new w _
  have h1 : ((w.alloc (.cells #[a, b] t)).alloc (.cells #[c, d] t)).heap[w.heap.size + 1]? = some (.cells #[c, d] t (0, 0)) := heap_new2 w _ _
  exact ⟨(two_cells h0).1, (two_cells h0).2.1, (two_cells h1).1, (two_cells h1).2.1, by simp⟩
theorem Two.below {w w' : World} {g : Nat} {a b c d : Value} (h : Two w g a b c d) (hb : Below w.heap.size w w') : Two w' g a b c d :=
  ⟨(hb.cell (p := ⟨g, 0, none⟩) (by have := h.lt; show g < _; omega)).trans h.c00, (hb.cell (p := ⟨g, 1, none⟩) (by have := h.lt; show g < _; omega)).trans h.c01,
   (hb.cell (p := ⟨g + 1, 0, none⟩) (by have := h.lt; show g + 1 < _; omega)).trans h.c10, (hb.cell (p := ⟨g + 1, 1, none⟩) (by have := h.lt; show g + 1 < _; omega)).trans h.c11, Nat.le_trans h.lt hb.size⟩
end Go.Proofs.YtlicmnlllappnaaDoor
