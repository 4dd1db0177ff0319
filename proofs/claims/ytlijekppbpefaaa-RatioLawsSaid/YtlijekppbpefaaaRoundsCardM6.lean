/- Texts put together: Rat, RatLow, Late, RatOps. -/
import Derived.Test.YtlijekppbpefaaaRoundsCardM5
import Derived.Deep.DeepCutAuto
/- Fractions in memory: a fraction as it is handed in (RatRaw), a pair of numbers (PairAt), a fraction as it is told (RatTold). -/
namespace Go.Proofs.Ytlijekppbpefaaa
open Go.RowKit Big

def nonInt : Value → Bool | .int _ _ => false | _ => true
/-- block g holds these cells -/
def Rec (w : World) (g : Nat) (t : TypeId) (cs : Array Value) : Prop := w.heap[g]? = some (.cells cs t (0, 0))
theorem Rec.below {w w' : World} {g : Nat} {t : TypeId} {cs : Array Value} (h : Rec w g t cs) (hb : Below w.heap.size w w') : Rec w' g t cs := (hb.block g (Array.getElem?_eq_some_iff.1 h).1).trans h
theorem Rec.lt {w : World} {g : Nat} {t : TypeId} {cs : Array Value} (h : Rec w g t cs) : g < w.heap.size := (Array.getElem?_eq_some_iff.1 h).1
theorem Rec.new (w : World) (cs : Array Value) (t : TypeId) : Rec (w.alloc (.cells cs t)) w.heap.size t cs := heap_alloc_new w _
theorem Rec.cell {w : World} {g : Nat} {t : TypeId} {cs : Array Value} (h : Rec w g t cs) (j : Nat) : w.cell? ⟨g, j, none⟩ = cs[j]? := cell_of_row w g j _ t (0, 0) h
theorem Rec.frozen {w : World} {g : Nat} {t : TypeId} {cs : Array Value} (h : Rec w g t cs) (j : Nat) : w.frozen? ⟨g, j, none⟩ = false := frozen_of_row w g j _ t h
theorem Rec.set {w : World} {g : Nat} {t : TypeId} {cs : Array Value} (h : Rec w g t cs) (j : Nat) (u : Value) : Rec (w.setCell ⟨g, j, none⟩ u) g t (cs.setIfInBounds j u) := heap_setCell_same w g j _ t u h
theorem Rec.apart {w : World} {g g' : Nat} {t : TypeId} {cs : Array Value} (h : Rec w g t cs) (hne : g ≠ g') (j : Nat) (u : Value) : Rec (w.setCell ⟨g', j, none⟩ u) g t cs := (Below.heap_setCell _ _ _ _ hne).trans h
theorem At.setF {w : World} {k : IntKind} {v : Value} {l : List Nat} {g : Nat} {t : TypeId} {cs : Array Value} (h : At w k v l) (hp : Rec w g t cs) (hf : cs.all nonInt = true) (j : Nat) (u : Value) : At (w.setCell ⟨g, j, none⟩ u) k v l := by
  obtain ⟨p, cap, hv, h1, h2, h3, h4⟩ := h
  refine ⟨p, cap, hv, h1, h2, h3, fun hl => ?_⟩
  obtain ⟨b, off, h5, h6, h7⟩ := h4 hl
  have hne : b ≠ g := by
    rintro rfl
    have h0 := h7 0 hl
    rw [hp.cell] at h0
    obtain ⟨hi, he⟩ := Array.getElem?_eq_some_iff.1 h0
    have := Array.all_eq_true.1 hf _ hi
    rw [he] at this
    cases this
  refine ⟨b, off, h5, by simpa [World.setCell] using h6, fun i hi => ?_⟩
  rw [← h7 i hi]
  exact World.cell?_of_block (w := w) (Below.heap_setCell w _ u b hne)
theorem RawAt.setF {w : World} {v : Value} {z : Int} {g : Nat} {t : TypeId} {cs : Array Value} (h : RawAt w v z) (hp : Rec w g t cs) (hf : cs.all nonInt = true) (j : Nat) (u : Value) : RawAt (w.setCell ⟨g, j, none⟩ u) v z := by
  obtain ⟨neg, s, l, hs, ha, r⟩ := h
  exact ⟨neg, s, l, hs, ha.setF hp hf j u, r⟩
theorem IntAt.setF {w : World} {v : Value} {z : Int} {g : Nat} {t : TypeId} {cs : Array Value} (h : IntAt w v z) (hp : Rec w g t cs) (hf : cs.all nonInt = true) (j : Nat) (u : Value) : IntAt (w.setCell ⟨g, j, none⟩ u) v z := by
  obtain ⟨s, hs, ha⟩ := h
  exact ⟨s, hs, ha.setF hp hf j u⟩
/-- one store of a cell that is no number: what stays -/
structure Stay (w w' : World) (g : Nat) : Prop where
  raw : ∀ v z, RawAt w v z → RawAt w' v z
  int : ∀ v z, IntAt w v z → IntAt w' v z
  rcs : ∀ g' t cs, g' ≠ g → Rec w g' t cs → Rec w' g' t cs
  bel : ∀ B u, B ≤ g → Below B u w → Below B u w'
theorem Stay.refl (w : World) (g : Nat) : Stay w w g := ⟨fun _ _ h => h, fun _ _ h => h, fun _ _ _ _ h => h, fun _ _ _ h => h⟩
theorem Stay.set {w w' : World} {g : Nat} (h : Stay w w' g) {t : TypeId} {cs : Array Value} (hp : Rec w' g t cs) (hf : cs.all nonInt = true) (j : Nat) (u : Value) : Stay w (w'.setCell ⟨g, j, none⟩ u) g :=
  ⟨fun v z hv => (h.raw v z hv).setF hp hf j u, fun v z hv => (h.int v z hv).setF hp hf j u, fun g' t' cs' hne hr => (h.rcs g' t' cs' hne hr).apart hne j u, fun B u' hB hb => (h.bel B u' hB hb).setCell (p := ⟨g, j, none⟩) hB u⟩
theorem put4 {w : World} {g : Nat} {t : TypeId} {a b c d : Value} (h : Rec w g t #[a, b, c, d]) (hf : (#[a, b, c, d] : Array Value).all nonInt = true) (a' b' c' d' : Value) (hf' : (#[a', b', c', d'] : Array Value).all nonInt = true) :
    Rec ((((w.setCell ⟨g, 0, none⟩ a').setCell ⟨g, 1, none⟩ b').setCell ⟨g, 2, none⟩ c').setCell ⟨g, 3, none⟩ d') g t #[a', b', c', d'] ∧ Stay w ((((w.setCell ⟨g, 0, none⟩ a').setCell ⟨g, 1, none⟩ b').setCell ⟨g, 2, none⟩ c').setCell ⟨g, 3, none⟩ d') g := by
  simp at hf hf'
  have h1 : Rec (w.setCell ⟨g, 0, none⟩ a') g t #[a', b, c, d] := h.set 0 a'
  have h2 : Rec ((w.setCell ⟨g, 0, none⟩ a').setCell ⟨g, 1, none⟩ b') g t #[a', b', c, d] := h1.set 1 b'
  have h3 : Rec (((w.setCell ⟨g, 0, none⟩ a').setCell ⟨g, 1, none⟩ b').setCell ⟨g, 2, none⟩ c') g t #[a', b', c', d] := h2.set 2 c'
  have h4 : Rec ((((w.setCell ⟨g, 0, none⟩ a').setCell ⟨g, 1, none⟩ b').setCell ⟨g, 2, none⟩ c').setCell ⟨g, 3, none⟩ d') g t #[a', b', c', d'] := h3.set 3 d'
  exact ⟨h4, ((((Stay.refl w g).set h (by simp [hf]) 0 a').set h1 (by simp [hf, hf']) 1 b').set h2 (by simp [hf, hf']) 2 c').set h3 (by simp [hf, hf']) 3 d'⟩
theorem put3 {w : World} {g : Nat} {t : TypeId} {a b c : Value} (h : Rec w g t #[a, b, c]) (hf : (#[a, b, c] : Array Value).all nonInt = true) (a' b' c' : Value) (hf' : (#[a', b', c'] : Array Value).all nonInt = true) :
    Rec (((w.setCell ⟨g, 0, none⟩ a').setCell ⟨g, 1, none⟩ b').setCell ⟨g, 2, none⟩ c') g t #[a', b', c'] ∧ Stay w (((w.setCell ⟨g, 0, none⟩ a').setCell ⟨g, 1, none⟩ b').setCell ⟨g, 2, none⟩ c') g := by
  simp at hf hf'
  have h1 : Rec (w.setCell ⟨g, 0, none⟩ a') g t #[a', b, c] := h.set 0 a'
  have h2 : Rec ((w.setCell ⟨g, 0, none⟩ a').setCell ⟨g, 1, none⟩ b') g t #[a', b', c] := h1.set 1 b'
  have h3 : Rec (((w.setCell ⟨g, 0, none⟩ a').setCell ⟨g, 1, none⟩ b').setCell ⟨g, 2, none⟩ c') g t #[a', b', c'] := h2.set 2 c'
  exact ⟨h3, (((Stay.refl w g).set h (by simp [hf]) 0 a').set h1 (by simp [hf, hf']) 1 b').set h2 (by simp [hf, hf']) 2 c'⟩
theorem put2 {w : World} {g : Nat} {t : TypeId} {a b : Value} (h : Rec w g t #[a, b]) (hf : (#[a, b] : Array Value).all nonInt = true) (a' b' : Value) (hf' : (#[a', b'] : Array Value).all nonInt = true) :
    Rec ((w.setCell ⟨g, 0, none⟩ a').setCell ⟨g, 1, none⟩ b') g t #[a', b'] ∧ Stay w ((w.setCell ⟨g, 0, none⟩ a').setCell ⟨g, 1, none⟩ b') g := by
  simp at hf hf'
  have h1 : Rec (w.setCell ⟨g, 0, none⟩ a') g t #[a', b] := h.set 0 a'
  have h2 : Rec ((w.setCell ⟨g, 0, none⟩ a').setCell ⟨g, 1, none⟩ b') g t #[a', b'] := h1.set 1 b'
  exact ⟨h2, ((Stay.refl w g).set h (by simp [hf]) 0 a').set h1 (by simp [hf, hf']) 1 b'⟩
theorem put24 {w : World} {g : Nat} {t : TypeId} {a b c d : Value} (h : Rec w g t #[a, b, c, d]) (hf : (#[a, b, c, d] : Array Value).all nonInt = true) (c' d' : Value) (hf' : (#[c', d'] : Array Value).all nonInt = true) :
    Rec ((w.setCell ⟨g, 2, none⟩ c').setCell ⟨g, 3, none⟩ d') g t #[a, b, c', d'] ∧ Stay w ((w.setCell ⟨g, 2, none⟩ c').setCell ⟨g, 3, none⟩ d') g := by
  simp at hf hf'
  have h3 : Rec (w.setCell ⟨g, 2, none⟩ c') g t #[a, b, c', d] := h.set 2 c'
  have h4 : Rec ((w.setCell ⟨g, 2, none⟩ c').setCell ⟨g, 3, none⟩ d') g t #[a, b, c', d'] := h3.set 3 d'
  exact ⟨h4, ((Stay.refl w g).set h (by simp [hf]) 2 c').set h3 (by simp [hf, hf']) 3 d'⟩
theorem cells4 {w : World} {g : Nat} {t : TypeId} {a b c d : Value} (h : Rec w g t #[a, b, c, d]) : w.cell? ⟨g, 0, none⟩ = some a ∧ w.cell? ⟨g, 1, none⟩ = some b ∧ w.cell? ⟨g, 2, none⟩ = some c ∧ w.cell? ⟨g, 3, none⟩ = some d :=
  ⟨h.cell 0, h.cell 1, h.cell 2, h.cell 3⟩
theorem cells3 {w : World} {g : Nat} {t : TypeId} {a b c : Value} (h : Rec w g t #[a, b, c]) : w.cell? ⟨g, 0, none⟩ = some a ∧ w.cell? ⟨g, 1, none⟩ = some b ∧ w.cell? ⟨g, 2, none⟩ = some c := ⟨h.cell 0, h.cell 1, h.cell 2⟩
theorem frozen4 {w : World} {g : Nat} {t : TypeId} {cs : Array Value} (h : Rec w g t cs) : w.frozen? ⟨g, 0, none⟩ = false ∧ w.frozen? ⟨g, 1, none⟩ = false ∧ w.frozen? ⟨g, 2, none⟩ = false ∧ w.frozen? ⟨g, 3, none⟩ = false :=
  ⟨h.frozen 0, h.frozen 1, h.frozen 2, h.frozen 3⟩

/-- a fraction as it is handed in: p by q, where q may be 0 -/
def RatRaw (w : World) (v : Value) (p q : Int) : Prop := ∃ b p0 n0 c0 p1 n1 c1, v = .agg #[.bool b, .slice p0 n0 c0, .slice p1 n1 c1] ∧ RawAt w (.agg #[.bool b, .slice p0 n0 c0]) p ∧ RawAt w (.agg #[.bool false, .slice p1 n1 c1]) q
def dn (q : Int) : Int := if q = 0 then 1 else q
def PairAt (w : World) (v : Value) (p q : Int) : Prop := ∃ b p0 n0 c0 b' p1 n1 c1, v = .agg #[.bool b, .slice p0 n0 c0, .bool b', .slice p1 n1 c1] ∧ RawAt w (.agg #[.bool b, .slice p0 n0 c0]) p ∧ RawAt w (.agg #[.bool b', .slice p1 n1 c1]) q
def RPair (p q : Int) (w : World) (e : Ending) (w' : World) : Prop := ∃ v, e = .returned v ∧ PairAt w' v p q ∧ Below w.heap.size w w'
def RatTold (w : World) (v : Value) (x : Rat) : Prop := ∃ b p0 n0 c0 p1 n1 c1, v = .agg #[.bool b, .slice p0 n0 c0, .slice p1 n1 c1] ∧ IntAt w (.agg #[.bool b, .slice p0 n0 c0]) x.num ∧ IntAt w (.agg #[.bool false, .slice p1 n1 c1]) (x.den : Nat)
def RRat (x : Rat) (w : World) (e : Ending) (w' : World) : Prop := ∃ v, e = .returned v ∧ RatTold w' v x ∧ Below w.heap.size w w'
theorem RatRaw.below {w w' : World} {v : Value} {p q : Int} (h : RatRaw w v p q) (hb : Below w.heap.size w w') : RatRaw w' v p q := by
  obtain ⟨b, p0, n0, c0, p1, n1, c1, hv, h0, h1⟩ := h
  exact ⟨b, p0, n0, c0, p1, n1, c1, hv, h0.below hb, h1.below hb⟩
theorem PairAt.below {w w' : World} {v : Value} {p q : Int} (h : PairAt w v p q) (hb : Below w.heap.size w w') : PairAt w' v p q := by
  obtain ⟨b, p0, n0, c0, b', p1, n1, c1, hv, h0, h1⟩ := h
  exact ⟨b, p0, n0, c0, b', p1, n1, c1, hv, h0.below hb, h1.below hb⟩
theorem RatTold.below {w w' : World} {v : Value} {x : Rat} (h : RatTold w v x) (hb : Below w.heap.size w w') : RatTold w' v x := by
  obtain ⟨b, p0, n0, c0, p1, n1, c1, hv, h0, h1⟩ := h
  exact ⟨b, p0, n0, c0, p1, n1, c1, hv, h0.below hb, h1.below hb⟩
theorem RawAt.parts {w : World} {v : Value} {z : Int} (h : RawAt w v z) : ∃ b p n c, v = .agg #[.bool b, .slice p n c] := by
  obtain ⟨neg, s, l, rfl, ⟨p, c, rfl, -⟩, -⟩ := h
  exact ⟨neg, p, _, c, rfl⟩
theorem IntAt.parts' {w : World} {v : Value} {z : Int} (h : IntAt w v z) : ∃ b p n c, v = .agg #[.bool b, .slice p n c] ∧ IntAt w (.agg #[.bool b, .slice p n c]) z := by
  obtain ⟨p, n, c, hv, hi⟩ := h.shape
  exact ⟨_, p, n, c, hv, hi⟩

set_option maxRecDepth 100000 in
set_option maxHeartbeats 1600000 in
theorem read_any (v : Value) (p q : Int) (w : World) (h : RatRaw w v p q) :
    Calls Try.prog 23 #[v] w (RPair p (dn q) w) := by
  obtain ⟨b, p0, n0, c0, p1, n1, c1, rfl, h0, h1⟩ := h
  have H0 := hid h0; have H1 := hid h1
  obtain ⟨d, hd⟩ : ∃ d, d = dn q := ⟨_, rfl⟩
  rw [← hd]
  have Hd := hid hd
  clear h0 h1 hd
  go_enter Try.func23, Try.ntmps23
  go_upto_region 2 with fail
  generalize hW : World.alloc (World.alloc (World.alloc w _) _) _ = W3
  have bw : Below w.heap.size w W3 := by rw [← hW]; exact ((below1 _ _).alloc (by simp) _).alloc (by simp; omega) _
  have r2 : Rec W3 (w.heap.size + 1) 47 #[.bool false, .slice none 0 0, .bool false, .slice none 0 0] := by
    rw [← hW]
    have := (Rec.new (w.alloc (.cells #[.bool b, .slice p0 n0 c0, .slice p1 n1 c1] 27)) #[.bool false, .slice none 0 0, .bool false, .slice none 0 0] 47).below (below1 _ (.cells #[.bool b, .slice p0 n0 c0, .bool false, .slice p1 n1 c1] 47))
    rwa [size_alloc] at this
  have r3 : Rec W3 (w.heap.size + 1 + 1) 47 #[.bool b, .slice p0 n0 c0, .bool false, .slice p1 n1 c1] := by
    rw [← hW]
    have := Rec.new ((w.alloc (.cells #[.bool b, .slice p0 n0 c0, .slice p1 n1 c1] 27)).alloc (.cells #[.bool false, .slice none 0 0, .bool false, .slice none 0 0] 47)) #[.bool b, .slice p0 n0 c0, .bool false, .slice p1 n1 c1] 47
    rwa [size_alloc, size_alloc] at this
  clear hW
  have R0 := hid (H0.out.below bw); have R1 := hid (H1.out.below bw)
  have c3 := cells4 r3
  obtain ⟨x0, x1, x2, x3⟩ := c3
  have hsg := Sign_any _ q W3 R1.out
  have Hsg := hid hsg
  have Hr2 := hid r2; have Hr3 := hid r3; have Hbw := hid bw
  clear hsg r2 r3 bw H0 H1
  by_cases hq : q = 0
  · subst hq
    have Hd1 : Hid (d = 1) := by unfold Hid; rw [Hd.out]; rfl
    rw [Int.sign_zero] at Hsg
    go_wp2_with fail
    refine Hsg.out.mono ?_
    rintro e W4 ⟨rfl, b4⟩
    have b14 : Below w.heap.size w W4 := Hbw.out.trans (b4.mono (B' := w.heap.size) Hbw.out.size)
    have r2 := Hr2.out.below b4; have r3 := Hr3.out.below b4; have R0' := R0.out.below b4
    clear b4 x0 x1 x2 x3 Hr2 Hr3 R0 R1
    have Hr2 := hid r2; have Hr3 := hid r3; have R0 := hid R0'; have Hb := hid b14
    clear r2 r3 R0' b14
    go_wp2_with fail
    refine (Of_any 1 _ (by decide) (by decide)).mono ?_
    rintro e W5 ⟨v5, rfl, i5, b5⟩
    have i5s := i5.parts'
    obtain ⟨d5, p5, n5, c5, rfl, i5⟩ := i5s
    have b15 : Below w.heap.size w W5 := Hb.out.trans (b5.mono (B' := w.heap.size) Hb.out.size)
    have r2 := Hr2.out.below b5; have r3 := Hr3.out.below b5; have R0' := R0.out.below b5
    have x := cells4 r3
    obtain ⟨x0, x1, x2, x3⟩ := x
    have y := frozen4 r3
    obtain ⟨y0, y1, y2, y3⟩ := y
    have k3 := put24 r3 (by simp [nonInt]) (.bool d5) (.slice p5 n5 c5) (by simp [nonInt])
    have k2 := k3.2.rcs _ _ _ (show w.heap.size + 1 ≠ w.heap.size + 1 + 1 by omega) r2
    have kr := k3.2.raw _ _ R0'
    have ki := k3.2.int _ _ i5
    have kb := k3.2.bel w.heap.size w (by omega) b15
    have k3' := k3.1
    clear k3 r2 r3 R0' i5 b15 b5 Hr2 Hr3 R0 Hb
    go_upto_region 4 with fail
    generalize ((W5.setCell ⟨w.heap.size + 1 + 1, 2, none⟩ (.bool d5)).setCell ⟨w.heap.size + 1 + 1, 3, none⟩ (.slice p5 n5 c5)) = W6 at *
    clear x0 x1 x2 x3 y0 y1 y2 y3
    have x := cells4 k3'
    obtain ⟨x0, x1, x2, x3⟩ := x
    have x' := cells4 k2
    obtain ⟨z0, z1, z2, z3⟩ := x'
    have y := frozen4 k2
    obtain ⟨y0, y1, y2, y3⟩ := y
    have m2 := put4 k2 (by simp [nonInt]) (.bool b) (.slice p0 n0 c0) (.bool d5) (.slice p5 n5 c5) (by simp [nonInt])
    have mr := hid (m2.2.raw _ _ kr)
    have mi := hid ((m2.2.int _ _ ki).raw (by decide))
    have mb := hid (m2.2.bel w.heap.size w (by omega) kb)
    clear m2 kr ki kb k2 k3'
    go_wp2
    exact bodyPost_ret (v := .agg #[.bool b, .slice p0 n0 c0, .bool d5, .slice p5 n5 c5]) (by simp [results, Try.results23, go_sem, z0, z1, z2, z3]) rfl ⟨_, rfl, ⟨_, _, _, _, _, _, _, _, rfl, mr.out, by rw [Hd1.out]; exact mi.out⟩, mb.out⟩
  · have Hdq : Hid (d = q) := by unfold Hid; rw [Hd.out]; unfold dn; rw [if_neg hq]
    have hs : (q.sign == 0) = false := beq_eq_false_iff_ne.2 (fun e => hq (Int.sign_eq_zero_iff_zero.1 e))
    clear hq
    go_wp2_with fail
    refine Hsg.out.mono ?_
    rintro e W4 ⟨rfl, b4⟩
    have b14 : Below w.heap.size w W4 := Hbw.out.trans (b4.mono (B' := w.heap.size) Hbw.out.size)
    have k2 := Hr2.out.below b4; have k3' := Hr3.out.below b4; have kr := R0.out.below b4; have ki := R1.out.below b4
    have kb := b14
    clear b4 x0 x1 x2 x3 Hr2 Hr3 R0 R1 b14
    have x := cells4 k3'
    obtain ⟨x0, x1, x2, x3⟩ := x
    have x' := cells4 k2
    obtain ⟨z0, z1, z2, z3⟩ := x'
    have y := frozen4 k2
    obtain ⟨y0, y1, y2, y3⟩ := y
    have m2 := put4 k2 (by simp [nonInt]) (.bool b) (.slice p0 n0 c0) (.bool false) (.slice p1 n1 c1) (by simp [nonInt])
    have mr := hid (m2.2.raw _ _ kr)
    have mi := hid (m2.2.raw _ _ ki)
    have mb := hid (m2.2.bel w.heap.size w (by omega) kb)
    clear m2 kr ki kb k2 k3' Hbw
    go_wp2
    exact bodyPost_ret (v := .agg #[.bool b, .slice p0 n0 c0, .bool false, .slice p1 n1 c1]) (by simp [results, Try.results23, go_sem, z0, z1, z2, z3]) rfl ⟨_, rfl, ⟨_, _, _, _, _, _, _, _, rfl, mr.out, by rw [Hdq.out]; exact mi.out⟩, mb.out⟩
end Go.Proofs.Ytlijekppbpefaaa
/- (ratio.pair).low: the form in which fractions are told. -/
namespace Go.Proofs.Ytlijekppbpefaaa
open Go.RowKit Big

theorem sz_lowBy {p q : Int} (hq : q ≠ 0) (h : sz W q.natAbs ≤ 1099511627776) : sz W (lowBy p q).natAbs ≤ 1099511627776 := by
  refine Nat.le_trans (sz_mono W2 ?_) h
  have h1 : Nat.gcd p.natAbs q.natAbs ≤ q.natAbs := Nat.gcd_le_right _ (by omega)
  unfold lowBy
  split <;> omega

set_option maxRecDepth 100000 in
set_option maxHeartbeats 3200000 in
theorem low_any (v : Value) (p q : Int) (w : World) (h : PairAt w v p q) (hq : q ≠ 0) :
    Calls Try.prog 35 #[v] w (RRat (Rat.divInt p q) w) := by
  obtain ⟨b, p0, n0, c0, b', p1, n1, c1, rfl, h0, h1⟩ := h
  have szc := hid (sz_lowBy (p := p) hq h1.sz)
  have H0 := hid h0; have H1 := hid h1
  clear h0 h1
  go_enter Try.func35, Try.ntmps35
  go_upto_region 1 with fail
  generalize hW : World.alloc (World.alloc w _) _ = W2
  have bw : Below w.heap.size w W2 := by rw [← hW]; exact (below1 _ _).alloc (by simp) _
  have r1 : Rec W2 w.heap.size 47 #[.bool b, .slice p0 n0 c0, .bool b', .slice p1 n1 c1] := by
    rw [← hW]; exact (Rec.new ..).below (below1 _ _)
  have r2 : Rec W2 (w.heap.size + 1) 27 #[.bool false, .slice none 0 0, .slice none 0 0] := by
    rw [← hW]
    have := Rec.new (w.alloc (.cells #[.bool b, .slice p0 n0 c0, .bool b', .slice p1 n1 c1] 47)) #[.bool false, .slice none 0 0, .slice none 0 0] 27
    rwa [size_alloc] at this
  clear hW
  have R0 := hid (H0.out.below bw); have R1 := hid (H1.out.below bw)
  have x := cells4 r1
  obtain ⟨x0, x1, x2, x3⟩ := x
  have Hr1 := hid r1; have Hr2 := hid r2; have Hbw := hid bw
  clear r1 r2 bw H0 H1
  go_wp2_with fail
  refine (Gcd_any _ _ p q W2 R0.out R1.out).mono ?_
  rintro e W3 ⟨v3, rfl, i3, b3⟩
  have i3s := i3.parts'
  obtain ⟨d3, p3, n3, c3, rfl, i3⟩ := i3s
  go_upto_region 2 with fail
  generalize hW : World.alloc W3 _ = W4
  have X4 : Below W2.heap.size W2 W4 ∧ IntCell W4 W3.heap.size (Nat.gcd p.natAbs q.natAbs : Nat) := by
    rw [← hW]; exact ⟨b3.trans ((below1 _ _).mono (B' := W2.heap.size) b3.size), _, _, _, _, heap_alloc_new W3 _, i3.below (below1 _ _)⟩
  have r1 := Hr1.out.below X4.1; have r2 := Hr2.out.below X4.1; have R0' := R0.out.below X4.1; have R1' := R1.out.below X4.1
  have b4 : Below w.heap.size w W4 := Hbw.out.trans (X4.1.mono (B' := w.heap.size) Hbw.out.size)
  have C4 := X4.2
  obtain ⟨g3, hg3⟩ : ∃ g, g = W3.heap.size := ⟨_, rfl⟩
  have hg3' : w.heap.size + 1 ≠ g3 ∧ w.heap.size ≠ g3 ∧ w.heap.size ≤ g3 := by have := b3.size; have := Hr2.out.lt; omega
  obtain ⟨hg31, hg32, hg33⟩ := hg3'
  rw [← hg3] at C4 ⊢
  clear hW X4 x0 x1 x2 x3 b3 i3 Hr1 Hr2 Hbw R0 R1 hg3
  have x := cells4 r1
  obtain ⟨x0, x1, x2, x3⟩ := x
  have hsg := Sign_any _ q W4 R1'
  have Hsg := hid hsg
  have Hr1 := hid r1; have Hr2 := hid r2; have HR0 := hid R0'; have HR1 := hid R1'; have Hb4 := hid b4; have HC4 := hid C4
  clear hsg r1 r2 R0' R1' b4 C4
  by_cases hneg : q < 0
  · rw [Int.sign_eq_neg_one_of_neg hneg] at Hsg
    have hlb : Hid (-((Nat.gcd p.natAbs q.natAbs : Nat) : Int) = lowBy p q) := by unfold Hid lowBy; rw [if_pos hneg]
    have szg : Hid (sz W ((Nat.gcd p.natAbs q.natAbs : Nat) : Int).natAbs ≤ 1099511627776) := by
      have := szc.out
      rw [← hlb.out, Int.natAbs_neg] at this
      exact this
    clear hneg
    go_wp2_with fail
    refine Hsg.out.mono ?_
    rintro e W5 ⟨rfl, b5⟩
    have r1 := Hr1.out.below b5; have r2 := Hr2.out.below b5; have R0' := HR0.out.below b5; have R1' := HR1.out.below b5; have C5 := HC4.out.below b5
    have b5' : Below w.heap.size w W5 := Hb4.out.trans (b5.mono (B' := w.heap.size) Hb4.out.size)
    clear x0 x1 x2 x3 Hr1 Hr2 HR0 HR1 HC4 b5 Hb4 Hsg
    obtain ⟨d6, p6, n6, c6, e6, i6⟩ := id C5
    have e6' := two_cells e6
    obtain ⟨y0, y1, -, -⟩ := e6'
    have hng := Neg_any _ _ W5 (i6.raw szg.out)
    have Hng := hid hng
    have Hr1 := hid r1; have Hr2 := hid r2; have HR0 := hid R0'; have HR1 := hid R1'; have Hb5 := hid b5'; have HC5 := hid C5
    clear hng r1 r2 R0' R1' b5' C5 e6 i6
    go_wp2_with fail
    refine Hng.out.mono ?_
    rintro e W5b ⟨v5, rfl, i5, b5⟩
    have i5s := i5.parts'
    obtain ⟨d5, p5, n5, c5, rfl, i5⟩ := i5s
    have P5 := (HC5.out.below b5).pair
    have r1 := Hr1.out.below b5; have r2 := Hr2.out.below b5; have R0' := HR0.out.below b5; have R1' := HR1.out.below b5
    have b5' : Below w.heap.size w W5b := Hb5.out.trans (b5.mono (B' := w.heap.size) Hb5.out.size)
    have P5' := P5.cells
    obtain ⟨_, _, q0, q1, q2, q3⟩ := P5'
    have C6 := IntCell.put P5 i5
    rw [hlb.out] at C6
    obtain ⟨xx, pp, nn, cc, hh⟩ := P5
    have k2 := put2 hh (by simp [nonInt]) (.bool d5) (.slice p5 n5 c5) (by simp [nonInt])
    have r1 := k2.2.rcs _ _ _ hg32 r1
    have r2 := k2.2.rcs _ _ _ hg31 r2
    have R0 := k2.2.raw _ _ R0'
    have R1 := k2.2.raw _ _ R1'
    have b6 := k2.2.bel w.heap.size w hg33 b5'
    clear k2 hh R0' R1' b5' i5 b5 Hr1 Hr2 HR0 HR1 HC5 Hb5 Hng y0 y1 hlb szg
    go_upto_region 4 with fail
    generalize ((W5b.setCell ⟨g3, 0, none⟩ (.bool d5)).setCell ⟨g3, 1, none⟩ (.slice p5 n5 c5)) = W6 at *
    clear q0 q1 q2 q3
    have cg := lowBy_ne (p := p) hq
    have hnum := low_num (p := p) hq
    have hden := low_den (p := p) hq
    generalize lowBy p q = c at *
    have szc' := szc.out
    obtain ⟨d6, p6, n6, c6, e6, i6⟩ := id C6
    have e6' := two_cells e6
    obtain ⟨y0, y1, -, -⟩ := e6'
    have x := cells4 r1
    obtain ⟨x0, x1, x2, x3⟩ := x
    have hdiv := Div_any _ _ p c W6 R0 (i6.raw szc') cg
    have Hdiv := hid hdiv
    have Hr1 := hid r1; have Hr2 := hid r2; have HC6 := hid C6; have HR0 := hid R0; have HR1 := hid R1; have Hb6 := hid b6
    have Hnum := hid hnum; have Hden := hid hden; have Hcg := hid cg
    clear hdiv r1 r2 C6 R0 R1 b6 e6 i6 hnum hden cg hq
    go_wp2_with fail
    refine Hdiv.out.mono ?_
    rintro e W7 ⟨vq, vr, rfl, hqq, hrr, b7⟩
    have hqq := hqq.parts'
    obtain ⟨dq, pq, nq, cq', rfl, hqq⟩ := hqq
    have hrr := hrr.parts'
    obtain ⟨dr, pr, nr, cr, rfl, -⟩ := hrr
    go_upto_region 5 with fail
    generalize hW : World.alloc (World.alloc W7 _) _ = W8
    have X8 : Below W7.heap.size W7 W8 ∧ Rec W8 W7.heap.size 25 #[.bool dq, .slice pq nq cq'] := by
      rw [← hW]; exact ⟨((Below.refl _ _).alloc (Nat.le_refl _) _).alloc (by simp) _, (Rec.new ..).below (below1 _ _)⟩
    have b68 : Below W6.heap.size W6 W8 := b7.trans (X8.1.mono (B' := W6.heap.size) b7.size)
    have k4 := X8.2
    have i4 := hqq.below X8.1
    have r1 := Hr1.out.below b68; have r2 := Hr2.out.below b68; have C8 := HC6.out.below b68; have R1 := HR1.out.below b68
    have b8 : Below w.heap.size w W8 := Hb6.out.trans (b68.mono (B' := w.heap.size) Hb6.out.size)
    obtain ⟨g4, hg4⟩ : ∃ g, g = W7.heap.size := ⟨_, rfl⟩
    have hg4' : w.heap.size + 1 ≠ g4 := by have := b7.size; have := Hr2.out.lt; omega
    rw [← hg4] at k4 ⊢
    clear hW X8 y0 y1 x0 x1 x2 x3 b7 hqq b68 Hr1 Hr2 HC6 HR0 HR1 Hb6 Hdiv hg4
    obtain ⟨d6', p6', n6', c6', e6, i6⟩ := id C8
    have e6' := two_cells e6
    obtain ⟨y0, y1, -, -⟩ := e6'
    have x := cells4 r1
    obtain ⟨x0, x1, x2, x3⟩ := x
    have hdiv := Div_any _ _ q c W8 R1 (i6.raw szc') Hcg.out
    have Hdiv := hid hdiv
    have Hr2 := hid r2; have Hb8 := hid b8; have Hk4 := hid k4; have Hi4 := hid i4
    clear hdiv r1 r2 C8 R1 b8 e6 i6 k4 i4
    go_wp2_with fail
    refine Hdiv.out.mono ?_
    rintro e W9 ⟨vq, vr, rfl, hqq, hrr, b9⟩
    rw [Hden.out] at hqq
    have hqq := hqq.shape
    obtain ⟨pd, nd, cd, rfl, hqq⟩ := hqq
    have hrr := hrr.parts'
    obtain ⟨dr', pr', nr', cr', rfl, -⟩ := hrr
    have hneg : decide (((Rat.divInt p q).den : Int) < 0) = false := decide_eq_false (by omega)
    rw [hneg] at hqq ⊢
    go_upto_region 6 with fail
    generalize hW : World.alloc (World.alloc W9 _) _ = W10
    have X10 : Below W9.heap.size W9 W10 ∧ Rec W10 W9.heap.size 25 #[.bool false, .slice pd nd cd] := by
      rw [← hW]; exact ⟨((Below.refl _ _).alloc (Nat.le_refl _) _).alloc (by simp) _, (Rec.new ..).below (below1 _ _)⟩
    have b810 : Below W8.heap.size W8 W10 := b9.trans (X10.1.mono (B' := W8.heap.size) b9.size)
    have k7 := X10.2
    have i7 := hqq.below X10.1
    have r2 := Hr2.out.below b810; have k4 := Hk4.out.below b810; have i4 := Hi4.out.below b810
    have b10 : Below w.heap.size w W10 := Hb8.out.trans (b810.mono (B' := w.heap.size) Hb8.out.size)
    clear hW X10 y0 y1 x0 x1 x2 x3 b9 hqq b810 Hr2 Hk4 Hi4 Hb8 Hdiv hneg
    have y0 := k4.cell 0; have y1 := k4.cell 1; have z1 := k7.cell 1
    simp only [List.getElem?_toArray, List.getElem?_cons_zero, List.getElem?_cons_succ] at y0 y1 z1
    have x := cells3 r2
    obtain ⟨x0, x1, x2⟩ := x
    have f := frozen4 r2
    obtain ⟨f0, f1, f2, -⟩ := f
    rw [Hnum.out] at i4
    have m2 := put3 r2 (by simp [nonInt]) (.bool dq) (.slice pq nq cq') (.slice pd nd cd) (by simp [nonInt])
    have mi := hid (m2.2.int _ _ i4)
    have md := hid (m2.2.int _ _ i7)
    have mb := hid (m2.2.bel w.heap.size w (by omega) b10)
    clear m2 i4 i7 b10 r2 k4 k7
    go_wp2
    exact bodyPost_ret (v := .agg #[.bool dq, .slice pq nq cq', .slice pd nd cd]) (by simp [results, Try.results35, go_sem, x0, x1, x2]) rfl ⟨_, rfl, ⟨_, _, _, _, _, _, _, rfl, mi.out, md.out⟩, mb.out⟩
  · rw [Int.sign_eq_one_of_pos (show 0 < q by omega)] at Hsg
    have hlb : Hid (((Nat.gcd p.natAbs q.natAbs : Nat) : Int) = lowBy p q) := by unfold Hid lowBy; rw [if_neg hneg]
    clear hneg
    go_wp2_with fail
    refine Hsg.out.mono ?_
    rintro e W6 ⟨rfl, b5⟩
    have r1 := Hr1.out.below b5; have r2 := Hr2.out.below b5; have R0 := HR0.out.below b5; have R1 := HR1.out.below b5; have C6 := HC4.out.below b5
    have b6 : Below w.heap.size w W6 := Hb4.out.trans (b5.mono (B' := w.heap.size) Hb4.out.size)
    rw [hlb.out] at C6
    clear x0 x1 x2 x3 Hr1 Hr2 HR0 HR1 HC4 b5 Hb4 Hsg hlb
    have cg := lowBy_ne (p := p) hq
    have hnum := low_num (p := p) hq
    have hden := low_den (p := p) hq
    generalize lowBy p q = c at *
    have szc' := szc.out
    obtain ⟨d6, p6, n6, c6, e6, i6⟩ := id C6
    have e6' := two_cells e6
    obtain ⟨y0, y1, -, -⟩ := e6'
    have x := cells4 r1
    obtain ⟨x0, x1, x2, x3⟩ := x
    have hdiv := Div_any _ _ p c W6 R0 (i6.raw szc') cg
    have Hdiv := hid hdiv
    have Hr1 := hid r1; have Hr2 := hid r2; have HC6 := hid C6; have HR0 := hid R0; have HR1 := hid R1; have Hb6 := hid b6
    have Hnum := hid hnum; have Hden := hid hden; have Hcg := hid cg
    clear hdiv r1 r2 C6 R0 R1 b6 e6 i6 hnum hden cg hq
    go_wp2_with fail
    refine Hdiv.out.mono ?_
    rintro e W7 ⟨vq, vr, rfl, hqq, hrr, b7⟩
    have hqq := hqq.parts'
    obtain ⟨dq, pq, nq, cq', rfl, hqq⟩ := hqq
    have hrr := hrr.parts'
    obtain ⟨dr, pr, nr, cr, rfl, -⟩ := hrr
    go_upto_region 5 with fail
    generalize hW : World.alloc (World.alloc W7 _) _ = W8
    have X8 : Below W7.heap.size W7 W8 ∧ Rec W8 W7.heap.size 25 #[.bool dq, .slice pq nq cq'] := by
      rw [← hW]; exact ⟨((Below.refl _ _).alloc (Nat.le_refl _) _).alloc (by simp) _, (Rec.new ..).below (below1 _ _)⟩
    have b68 : Below W6.heap.size W6 W8 := b7.trans (X8.1.mono (B' := W6.heap.size) b7.size)
    have k4 := X8.2
    have i4 := hqq.below X8.1
    have r1 := Hr1.out.below b68; have r2 := Hr2.out.below b68; have C8 := HC6.out.below b68; have R1 := HR1.out.below b68
    have b8 : Below w.heap.size w W8 := Hb6.out.trans (b68.mono (B' := w.heap.size) Hb6.out.size)
    obtain ⟨g4, hg4⟩ : ∃ g, g = W7.heap.size := ⟨_, rfl⟩
    have hg4' : w.heap.size + 1 ≠ g4 := by have := b7.size; have := Hr2.out.lt; omega
    rw [← hg4] at k4 ⊢
    clear hW X8 y0 y1 x0 x1 x2 x3 b7 hqq b68 Hr1 Hr2 HC6 HR0 HR1 Hb6 Hdiv hg4
    obtain ⟨d6', p6', n6', c6', e6, i6⟩ := id C8
    have e6' := two_cells e6
    obtain ⟨y0, y1, -, -⟩ := e6'
    have x := cells4 r1
    obtain ⟨x0, x1, x2, x3⟩ := x
    have hdiv := Div_any _ _ q c W8 R1 (i6.raw szc') Hcg.out
    have Hdiv := hid hdiv
    have Hr2 := hid r2; have Hb8 := hid b8; have Hk4 := hid k4; have Hi4 := hid i4
    clear hdiv r1 r2 C8 R1 b8 e6 i6 k4 i4
    go_wp2_with fail
    refine Hdiv.out.mono ?_
    rintro e W9 ⟨vq, vr, rfl, hqq, hrr, b9⟩
    rw [Hden.out] at hqq
    have hqq := hqq.shape
    obtain ⟨pd, nd, cd, rfl, hqq⟩ := hqq
    have hrr := hrr.parts'
    obtain ⟨dr', pr', nr', cr', rfl, -⟩ := hrr
    have hneg : decide (((Rat.divInt p q).den : Int) < 0) = false := decide_eq_false (by omega)
    rw [hneg] at hqq ⊢
    go_upto_region 6 with fail
    generalize hW : World.alloc (World.alloc W9 _) _ = W10
    have X10 : Below W9.heap.size W9 W10 ∧ Rec W10 W9.heap.size 25 #[.bool false, .slice pd nd cd] := by
      rw [← hW]; exact ⟨((Below.refl _ _).alloc (Nat.le_refl _) _).alloc (by simp) _, (Rec.new ..).below (below1 _ _)⟩
    have b810 : Below W8.heap.size W8 W10 := b9.trans (X10.1.mono (B' := W8.heap.size) b9.size)
    have k7 := X10.2
    have i7 := hqq.below X10.1
    have r2 := Hr2.out.below b810; have k4 := Hk4.out.below b810; have i4 := Hi4.out.below b810
    have b10 : Below w.heap.size w W10 := Hb8.out.trans (b810.mono (B' := w.heap.size) Hb8.out.size)
    clear hW X10 y0 y1 x0 x1 x2 x3 b9 hqq b810 Hr2 Hk4 Hi4 Hb8 Hdiv hneg
    have y0 := k4.cell 0; have y1 := k4.cell 1; have z1 := k7.cell 1
    simp only [List.getElem?_toArray, List.getElem?_cons_zero, List.getElem?_cons_succ] at y0 y1 z1
    have x := cells3 r2
    obtain ⟨x0, x1, x2⟩ := x
    have f := frozen4 r2
    obtain ⟨f0, f1, f2, -⟩ := f
    rw [Hnum.out] at i4
    have m2 := put3 r2 (by simp [nonInt]) (.bool dq) (.slice pq nq cq') (.slice pd nd cd) (by simp [nonInt])
    have mi := hid (m2.2.int _ _ i4)
    have md := hid (m2.2.int _ _ i7)
    have mb := hid (m2.2.bel w.heap.size w (by omega) b10)
    clear m2 i4 i7 b10 r2 k4 k7
    go_wp2
    exact bodyPost_ret (v := .agg #[.bool dq, .slice pq nq cq', .slice pd nd cd]) (by simp [results, Try.results35, go_sem, x0, x1, x2]) rfl ⟨_, rfl, ⟨_, _, _, _, _, _, _, rfl, mi.out, md.out⟩, mb.out⟩
end Go.Proofs.Ytlijekppbpefaaa
/- A region that draws its order, one operation of which may come behind a store (two results, stored into two variables). -/
namespace Go.Proofs.Ytlijekppbpefaaa
open Go.RowKit

def storesWaitBut (md : Region.Mode) (ops : Array Oper) (n late : Nat) : Bool := (List.range ops.size).all fun i => decide (i < n) || (List.range n).all fun j => j == late || reach md ops 6 i j
theorem wpAny_late {P : Program} {ops : Array Oper} {Q : Exit → Act → World → Prop} {a0 : Act} {w0 : World} (n s : Nat) (hsize : ops.size = n + s) (ds : List Tmp) (f : Nat → SFact) (al : List Nat)
    (hd : edgesDown .any ops = true) (late : Nat) (hln : late < n) (hsw : storesWaitBut .any ops n late = true) (hdn : ds.Nodup) (hlen : ds.length = n) (hds : dstsAre ops n ds = true)
    (hal : ∀ i ∈ al, ∀ v w, (f i).P v w → ∃ g, v = .pointer (some ⟨g, 0, none⟩) ∧ g < w.heap.size)
    (hstep : ∀ i o, i < n → ops[i]? = some o → ∀ vs w, vs.length = n → Below w0.heap.size w0 w → (∀ e ∈ o.after, Region.binds .any e = true → (f e.on).P (vs.getD e.on undef) w) →
      ∀ K : Act → World → Prop, Shut (∀ v w', (f i).P v w' → Below w.heap.size w w' → (i ∈ al → v = .pointer (some ⟨w.heap.size, 0, none⟩)) → K ((putAll a0 ds vs).put o.dst v) w') →
        if Region.wanted o (yielded ops (putAll a0 ds vs).tmps) = true then Oper.wp P o (putAll a0 ds vs) w K Q else K ((putAll a0 ds vs).put o.dst undef) w)
    (hend : ∀ vs w, vs.length = n → Below w0.heap.size w0 w → (∀ i, i < n → (f i).P (vs.getD i undef) w) → (∀ i ∈ al, ∀ j ∈ al, i ≠ j → vs.getD i undef ≠ vs.getD j undef) →
      wpAny P .any ops Q s ((List.replicate n true ++ List.replicate s false).toArray) (putAll a0 ds vs) w)
    (hlate : ∀ vs w, vs.length = n → Below w0.heap.size w0 w → (∀ i, i < n → i ≠ late → (f i).P (vs.getD i undef) w) → (∀ i ∈ al, ∀ j ∈ al, i ≠ j → i ≠ late → j ≠ late → vs.getD i undef ≠ vs.getD j undef) →
      wpAny P .any ops Q (s + 1) (((List.replicate n true).set late false ++ List.replicate s false).toArray) (putAll a0 ds vs) w) :
    ∀ (c : Nat) (L : Array Bool) (vs : List Value) (w : World), (L.toList.take n).count false = c → L.size = n + s → (∀ j, n ≤ j → j < n + s → L.getD j true = false) → Closed .any ops L → vs.length = n → Below w0.heap.size w0 w →
      (∀ i, i < n → L.getD i false = true → (f i).P (vs.getD i undef) w) → (∀ i ∈ al, ∀ j ∈ al, i < n → j < n → i ≠ j → L.getD i false = true → L.getD j false = true → vs.getD i undef ≠ vs.getD j undef) →
      (∀ i ∈ al, i < n) → wpAny P .any ops Q (c + s) L (putAll a0 ds vs) w := by
  intro c
  induction c with
  | zero =>
    intro L vs w hc hs hst hcl hvl hb hf hdist haln
    have hall : ∀ i, i < n → L.getD i false = true := fun i hi => by
      have hil : i < L.size := by omega
      cases hb : L[i] with
      | true => simp [Array.getD, hil, hb]
      | false =>
        exfalso
        have hmem : false ∈ L.toList.take n := by
          rw [List.mem_take_iff_getElem]
          exact ⟨i, by simp; omega, by simpa using hb⟩
        have := List.count_pos_iff.2 hmem
        omega
    have hL : L = (List.replicate n true ++ List.replicate s false).toArray := by
      apply Array.ext
      · simp [hs]
      · intro i hi hi2
        by_cases h : i < n
        · have := hall i h
          simp only [Array.getD, hi] at this
          simp [h]
          simpa using this
        · have := hst i (by omega) (by omega)
          simp only [Array.getD, hi] at this
          simp [List.getElem_append, h]
          simpa using this
    rw [Nat.zero_add, hL]
    exact hend vs w hvl hb (fun i hi => hf i hi (hall i hi)) (fun i hi j hj hne => hdist i hi j hj (haln i hi) (haln j hj) hne (hall i (haln i hi)) (hall j (haln j hj)))
  | succ c ih =>
    intro L vs w hc hs hst hcl hvl hb hf hdist haln
    have hnot : ¬ ∀ i, i < n → L.getD i false = true := fun hall => by
      have : (L.toList.take n).count false = 0 := by
        rw [List.count_eq_zero]
        intro hmem
        rw [List.mem_take_iff_getElem] at hmem
        obtain ⟨i, hi, hif⟩ := hmem
        have hi' : i < L.size := by simp at hi; omega
        have := hall i (by simp at hi; omega)
        have h2 : L.getD i false = L[i] := by simp [Array.getD, hi']
        rw [h2] at this
        rw [Array.getElem_toList] at hif
        rw [hif] at this
        cases this
      omega
    by_cases hmiss : ∀ i, i < n → i ≠ late → L.getD i false = true
    · have hlf : L.getD late false = false := by
        cases hb : L.getD late false with
        | false => rfl
        | true => exact absurd (fun i hi => by by_cases h : i = late; · rw [h]; exact hb
                                               · exact hmiss i hi h) hnot
      have hL : L = (((List.replicate n true).set late false ++ List.replicate s false)).toArray := by
        apply Array.ext
        · simp [hs]
        · intro i hi hi2
          by_cases h : i < n
          · by_cases h2 : i = late
            · subst h2
              simp only [Array.getD, hi] at hlf
              simp [h]
              simpa using hlf
            · have := hmiss i h h2
              simp only [Array.getD, hi] at this
              simp [h, List.getElem_set_ne (Ne.symm h2)]
              simpa using this
          · have := hst i (by omega) (by omega)
            simp only [Array.getD, hi] at this
            simp [List.getElem_append, h]
            simpa using this
      have hc0 : c = 0 := by
        have h1 : L.toList.take n = (List.replicate n true).set late false := by
          rw [hL]; simp
        rw [h1, List.count_set (by simpa using hln), List.count_replicate, List.getElem_replicate] at hc
        have e1 : (true == false) = false := rfl
        rw [e1] at hc
        simp only [beq_self_eq_true, if_true, Bool.false_eq_true, if_false] at hc
        omega
      subst hc0
      rw [show 0 + 1 + s = s + 1 by omega, hL]
      exact hlate vs w hvl hb (fun i hi hne => hf i hi (hmiss i hi hne)) (fun i hi j hj hne h1 h2 => hdist i hi j hj (haln i hi) (haln j hj) hne (hmiss i (haln i hi) h1) (hmiss j (haln j hj) h2))
    rw [show c + 1 + s = (c + s) + 1 by omega]
    refine ⟨fun hr => ?_, fun i hi => ?_⟩
    · exfalso
      apply hnot
      intro i hi
      have := all_listed hd (by rw [hs, hsize]) hr i (by omega)
      have hil : i < L.size := by omega
      simpa [Array.getD, hil] using this
    · obtain ⟨hun, o, ho, hall⟩ := mem_ready.1 hi
      have hio : i < ops.size := (Array.getElem?_eq_some_iff.1 ho).1
      have hil : i < L.size := by omega
      have hin : i < n := by
        rcases Nat.lt_or_ge i n with h | h
        · exact h
        · exfalso
          apply hmiss
          intro j hj hjl
          have h1 := List.all_eq_true.1 hsw i (by simpa using hio)
          simp only [Bool.or_eq_true, decide_eq_true_eq] at h1
          rcases h1 with h1 | h1
          · omega
          · have h2 := List.all_eq_true.1 h1 j (by simpa using hj)
            simp only [Bool.or_eq_true, beq_iff_eq] at h2
            rcases h2 with h2 | h2
            · exact absurd h2 hjl
            · exact reach_listed hcl 6 i o j ho hall h2
      have hdst : o.dst = ds[i]? := by
        have h1 := List.all_eq_true.1 hds i (by simpa using hin)
        rw [ho] at h1
        simpa using h1
      have hdi : ds[i]? = some (ds[i]'(by omega)) := by simp
      refine wpOp_step ho (fun K hK => hstep i o hin ho vs w hvl hb (fun e he hbd => ?_) K (fun v w' hv hb' hp => ?_))
      · have hl := hall e he hbd
        have hlt : e.on < n := by
          rcases Nat.lt_or_ge e.on n with h | h
          · exact h
          · exfalso
            rcases Nat.lt_or_ge e.on (n + s) with h2 | h2
            · have := hst e.on h h2
              have hl2 : e.on < L.size := by omega
              simp only [Array.getD, hl2] at this hl
              simp at this hl
              rw [this] at hl; cases hl
            · have : ¬ e.on < L.size := by omega
              simp [Array.getD, this] at hl
        exact hf e.on hlt hl
      · apply hK
        rw [hdst, hdi, putAll_set hdn hdi (by omega)]
        have hset : ∀ j, i ≠ j → (L.setIfInBounds i true).getD j false = L.getD j false := fun j h => getD_set_ne false h
        refine ih (L.setIfInBounds i true) (vs.set i v) w' ?_ (by simpa using hs) ?_ ?_ (by simpa using hvl) (hb.trans (hb'.mono hb.size)) ?_ ?_ haln
        · have hf' : (L.toList.take n)[i]'(by simp; omega) = false := by
            simp only [List.getElem_take]
            simpa [Array.getD, hil] using hun
          have := count_false_set (L.toList.take n) i (by simp; omega) hf'
          rw [Array.toList_setIfInBounds, ← List.take_set] at *
          omega
        · intro j hj hj2
          rw [getD_set_ne true (by omega)]
          exact hst j hj hj2
        · intro j o' hjo hjl e he hbd
          by_cases hji : i = j
          · subst hji
            rw [ho] at hjo
            cases hjo
            exact getD_set_true (hall e he hbd)
          · rw [hset j hji] at hjl
            exact getD_set_true (hcl j o' hjo hjl e he hbd)
        · intro j hj hjl
          by_cases hji : i = j
          · subst hji
            rw [getD_set_list_self (by omega)]
            exact hv
          · rw [hset j hji] at hjl
            rw [getD_set_list hji]
            exact (f j).st _ _ _ (hf j hj hjl) hb'
        · intro j hj k hk hjn hkn hjk hjl hkl
          have old : ∀ x, x ∈ al → x < n → i ≠ x → (L.setIfInBounds i true).getD x false = true → vs.getD x undef ≠ .pointer (some ⟨w.heap.size, 0, none⟩) := fun x hx hxn hix hxl => by
            rw [hset x hix] at hxl
            obtain ⟨g, hg, hgl⟩ := hal x hx _ _ (hf x hxn hxl)
            rw [hg]
            intro e
            injection e with e
            injection e with e
            injection e with e
            omega
          by_cases hji : i = j
          · subst hji
            rw [getD_set_list_self (by omega), getD_set_list hjk, hp hj]
            exact (old k hk hkn hjk hkl).symm
          · by_cases hki : i = k
            · subst hki
              rw [getD_set_list_self (by omega), getD_set_list hji, hp hk]
              exact old j hj hjn hji hjl
            · rw [getD_set_list hji, getD_set_list hki]
              rw [hset j hji] at hjl
              rw [hset k hki] at hkl
              exact hdist j hj k hk hjn hkn hjk hjl hkl

theorem wp_region_late {P : Program} {ops : Array Oper} {Q : Exit → Act → World → Prop} {id : Nat} {a0 : Act} {w0 : World} (n s : Nat) (ds : List Tmp) (vs0 : List Value) (f : Nat → SFact) (al : List Nat) (hm : P.follows .mixedOrders = true)
    (hsize : ops.size = n + s) (hd : edgesDown .any ops = true) (late : Nat) (hln : late < n) (hsw : storesWaitBut .any ops n late = true) (hdn : ds.Nodup) (hlen : ds.length = n) (hds : dstsAre ops n ds = true) (hv0 : vs0.length = n) (haln : ∀ i ∈ al, i < n)
    (he : a0 = putAll a0 ds vs0) (hal : ∀ i ∈ al, ∀ v w, (f i).P v w → ∃ g, v = .pointer (some ⟨g, 0, none⟩) ∧ g < w.heap.size)
    (hstep : ∀ i o, i < n → ops[i]? = some o → ∀ vs w, vs.length = n → Below w0.heap.size w0 w → (∀ e ∈ o.after, Region.binds .any e = true → (f e.on).P (vs.getD e.on undef) w) →
      ∀ K : Act → World → Prop, Shut (∀ v w', (f i).P v w' → Below w.heap.size w w' → (i ∈ al → v = .pointer (some ⟨w.heap.size, 0, none⟩)) → K ((putAll a0 ds vs).put o.dst v) w') →
        if Region.wanted o (yielded ops (putAll a0 ds vs).tmps) = true then Oper.wp P o (putAll a0 ds vs) w K Q else K ((putAll a0 ds vs).put o.dst undef) w)
    (hend : ∀ vs w, vs.length = n → Below w0.heap.size w0 w → (∀ i, i < n → (f i).P (vs.getD i undef) w) → (∀ i ∈ al, ∀ j ∈ al, i ≠ j → vs.getD i undef ≠ vs.getD j undef) →
      wpAny P .any ops Q s ((List.replicate n true ++ List.replicate s false).toArray) (putAll a0 ds vs) w)
    (hlate : ∀ vs w, vs.length = n → Below w0.heap.size w0 w → (∀ i, i < n → i ≠ late → (f i).P (vs.getD i undef) w) → (∀ i ∈ al, ∀ j ∈ al, i ≠ j → i ≠ late → j ≠ late → vs.getD i undef ≠ vs.getD j undef) →
      wpAny P .any ops Q (s + 1) (((List.replicate n true).set late false ++ List.replicate s false).toArray) (putAll a0 ds vs) w) : (Code.region id ops true).wp P Q a0 w0 := by
  refine wp_region_any hm ?_
  have := wpAny_late (a0 := a0) (w0 := w0) n s hsize ds f al hd late hln hsw hdn hlen hds hal hstep hend hlate n (Array.replicate ops.size false) vs0 w0.drew
    (by rw [hsize]; simp [List.take_replicate, Nat.min_eq_left (Nat.le_add_right n s)]) (by simp [hsize]) (by intro j hj hj2; simp [Array.getD, hsize, hj2]) (by intro j o _ h; simp [Array.getD] at h) hv0 ((Below.refl _ _).drew)
    (by intro i _ h; simp [Array.getD] at h) (by intro i _ j _ _ _ _ h; simp [Array.getD] at h) haln
  rw [← he, ← hsize] at this
  exact this
theorem wpAny_two {P : Program} {ops : Array Oper} {Q : Exit → Act → World → Prop} {md : Region.Mode} {i j fuel : Nat} {o o' : Oper} {listed : Array Bool} {a : Act} {w : World} (hr : Region.ready md ops listed = [i, j]) (ho : ops[i]? = some o) (ho' : ops[j]? = some o')
    (h : ∀ K : Act → World → Prop, Shut (∀ a w, wpAny P md ops Q fuel (listed.setIfInBounds i true) a w → K a w) → if Region.wanted o (yielded ops a.tmps) = true then Oper.wp P o a w K Q else K (a.put o.dst undef) w)
    (h' : ∀ K : Act → World → Prop, Shut (∀ a w, wpAny P md ops Q fuel (listed.setIfInBounds j true) a w → K a w) → if Region.wanted o' (yielded ops a.tmps) = true then Oper.wp P o' a w K Q else K (a.put o'.dst undef) w) : wpAny P md ops Q (fuel + 1) listed a w := by
  refine ⟨fun h0 => (by rw [hr] at h0; cases h0), ?_⟩
  rw [hr]
  intro x hx
  simp only [List.mem_cons, List.not_mem_nil, or_false] at hx
  rcases hx with rfl | rfl
  · exact wpOp_step ho (fun K hK => h K hK)
  · exact wpOp_step ho' (fun K hK => h' K hK)
end Go.Proofs.Ytlijekppbpefaaa
/- ratio's calls on two fractions: Cmp, Add, Mul. -/
namespace Go.Proofs.Ytlijekppbpefaaa
open Go.RowKit Big

def pairF (p q : Int) : SFact := ⟨fun v w => PairAt w v p q, fun _ _ _ h hb => h.below hb⟩
def ratF (x : Rat) : SFact := ⟨fun v w => RatTold w v x, fun _ _ _ h hb => h.below hb⟩
def recF (B : Nat) (t : TypeId) : SFact := ⟨fun v w => ∃ g a b c d, v = .pointer (some ⟨g, 0, none⟩) ∧ Rec w g t #[a, b, c, d] ∧ (#[a, b, c, d] : Array Value).all nonInt = true ∧ B ≤ g, fun _ _ _ ⟨g, a, b, c, d, h1, h2, h3⟩ hb => ⟨g, a, b, c, d, h1, h2.below hb, h3⟩⟩
theorem len6 {vs : List Value} (h : vs.length = 6) : ∃ a b c d e f, vs = [a, b, c, d, e, f] := by
  match vs, h with
  | [a, b, c, d, e, f], _ => exact ⟨a, b, c, d, e, f, rfl⟩
theorem len11 {vs : List Value} (h : vs.length = 11) : ∃ a b c d e f g h i j k, vs = [a, b, c, d, e, f, g, h, i, j, k] := by
  match vs, h with
  | [a, b, c, d, e, f, g, h, i, j, k], _ => exact ⟨a, b, c, d, e, f, g, h, i, j, k, rfl⟩
theorem len12 {vs : List Value} (h : vs.length = 12) : ∃ a b c d e f g h i j k l, vs = [a, b, c, d, e, f, g, h, i, j, k, l] := by
  match vs, h with
  | [a, b, c, d, e, f, g, h, i, j, k, l], _ => exact ⟨a, b, c, d, e, f, g, h, i, j, k, l, rfl⟩
/-- block g is a variable that holds this pair -/
def PairVar (w : World) (g : Nat) (p q : Int) : Prop := ∃ b p0 n0 c0 b' p1 n1 c1, Rec w g 47 #[.bool b, .slice p0 n0 c0, .bool b', .slice p1 n1 c1] ∧ RawAt w (.agg #[.bool b, .slice p0 n0 c0]) p ∧ RawAt w (.agg #[.bool b', .slice p1 n1 c1]) q
theorem PairVar.below {w w' : World} {g : Nat} {p q : Int} (h : PairVar w g p q) (hb : Below w.heap.size w w') : PairVar w' g p q := by
  obtain ⟨b, p0, n0, c0, b', p1, n1, c1, hr, h0, h1⟩ := h
  exact ⟨b, p0, n0, c0, b', p1, n1, c1, hr.below hb, h0.below hb, h1.below hb⟩
theorem PairVar.lt {w : World} {g : Nat} {p q : Int} (h : PairVar w g p q) : g < w.heap.size := by
  obtain ⟨b, p0, n0, c0, b', p1, n1, c1, hr, -⟩ := h
  exact hr.lt
theorem PairVar.stay {w w' : World} {g g' : Nat} {p q : Int} (h : PairVar w g p q) (hs : Stay w w' g') (hne : g ≠ g') : PairVar w' g p q := by
  obtain ⟨b, p0, n0, c0, b', p1, n1, c1, hr, h0, h1⟩ := h
  exact ⟨b, p0, n0, c0, b', p1, n1, c1, hs.rcs _ _ _ hne hr, hs.raw _ _ h0, hs.raw _ _ h1⟩
theorem dn_pos {q : Int} (h : 0 ≤ q) : 0 < dn q := by unfold dn; split <;> omega
theorem RatRaw.den {w : World} {v : Value} {p q : Int} (h : RatRaw w v p q) : 0 ≤ q := by
  obtain ⟨b, p0, n0, c0, p1, n1, c1, -, -, h1⟩ := h
  obtain ⟨neg, s, l, hv, -, -, -, rfl⟩ := h1
  injection hv with hv
  simp at hv
  obtain ⟨hv1, -⟩ := hv
  subst hv1
  simp [sg]
theorem sz_dn {q : Int} {k : Nat} (h : sz W q.natAbs ≤ k) (hk : 1 ≤ k) : sz W (dn q).natAbs ≤ k := by
  unfold dn
  split
  · exact Nat.le_trans (by decide) hk
  · exact h
theorem sz_mul2 {a b : Int} {k : Nat} (ha : sz W a.natAbs ≤ k) (hb : sz W b.natAbs ≤ k) : sz W (a * b).natAbs ≤ 2 * k := by
  rw [Int.natAbs_mul]
  exact Nat.le_trans (sz_mul W2 _ _) (by omega)
theorem sz_add2 {a b : Int} {k : Nat} (ha : sz W a.natAbs ≤ k) (hb : sz W b.natAbs ≤ k) : sz W (a + b).natAbs ≤ k + 1 := Nat.le_trans (sz_mono W2 (Int.natAbs_add_le a b)) (sz_add W2 ha hb)

set_option maxRecDepth 100000 in
set_option maxHeartbeats 3200000 in
theorem QCmp_any (v0 v1 : Value) (p q r s : Int) (w : World) (h0 : RatRaw w v0 p q) (h1 : RatRaw w v1 r s) (l0 : sz W p.natAbs ≤ 1000) (l1 : sz W q.natAbs ≤ 1000) (l2 : sz W r.natAbs ≤ 1000) (l3 : sz W s.natAbs ≤ 1000) :
    Calls Try.prog 13 #[v0, v1] w (RNum .i64 (cq (Rat.divInt p (dn q)) (Rat.divInt r (dn s))) w) := by
  have hcq := cq_ord (p := p) (r := r) (dn_pos h0.den) (dn_pos h1.den)
  have l1' := sz_dn l1 (by decide)
  have l3' := sz_dn l3 (by decide)
  have la := hid (sz_mul2 l0 l3'); have lb := hid (sz_mul2 l2 l1')
  rw [← hcq]
  clear hcq
  obtain ⟨b, p0, n0, c0, p1, n1, c1, rfl, ha0, ha1⟩ := id h0
  obtain ⟨b', p2, n2, c2, p3, n3, c3, rfl, hb0, hb1⟩ := id h1
  have HRA := hid h0; have HRB := hid h1
  clear ha0 ha1 hb0 hb1 h0 h1
  go_enter Try.func13, Try.ntmps13
  go_upto_region 1 with fail
  generalize hW : World.alloc (World.alloc w _) _ = W0
  have bw : Below w.heap.size w W0 := by rw [← hW]; exact (below1 _ _).alloc (by simp) _
  have ra : Rec W0 w.heap.size 27 #[.bool b, .slice p0 n0 c0, .slice p1 n1 c1] := by
    rw [← hW]; exact ((Rec.new ..).below (below1 _ _))
  have rb : Rec W0 (w.heap.size + 1) 27 #[.bool b', .slice p2 n2 c2, .slice p3 n3 c3] := by
    rw [← hW]
    have := (Rec.new (w.alloc (.cells #[.bool b, .slice p0 n0 c0, .slice p1 n1 c1] 27)) #[.bool b', .slice p2 n2 c2, .slice p3 n3 c3] 27)
    rw [size_alloc] at this
    exact this
  have HS : Hid (∀ w', Below W0.heap.size W0 w' → w'.cell? ⟨w.heap.size, 0, none⟩ = some (.bool b) ∧ w'.cell? ⟨w.heap.size, 1, none⟩ = some (.slice p0 n0 c0) ∧ w'.cell? ⟨w.heap.size, 2, none⟩ = some (.slice p1 n1 c1) ∧
      w'.cell? ⟨w.heap.size + 1, 0, none⟩ = some (.bool b') ∧ w'.cell? ⟨w.heap.size + 1, 1, none⟩ = some (.slice p2 n2 c2) ∧ w'.cell? ⟨w.heap.size + 1, 2, none⟩ = some (.slice p3 n3 c3)) := by
    intro w' hb
    have xa := cells3 (ra.below hb)
    have xb := cells3 (rb.below hb)
    exact ⟨xa.1, xa.2.1, xa.2.2, xb.1, xb.2.1, xb.2.2⟩
  have HRA := hid (HRA.out.below bw); have HRB := hid (HRB.out.below bw); have Hbw := hid bw
  clear hW ra rb bw
  go_upto_region 1 with fail
  go_cut [5, 6] (fun s5 s6 wx => ∃ g5 g6, s5 = .pointer (some ⟨g5, 0, none⟩) ∧ s6 = .pointer (some ⟨g6, 0, none⟩) ∧ g5 ≠ g6 ∧ W0.heap.size ≤ g5 ∧ W0.heap.size ≤ g6 ∧ PairVar wx g5 p (dn q) ∧ PairVar wx g6 r (dn s) ∧ Below W0.heap.size W0 wx)
  case first =>
    rename_i Jc Kc hJc hKc
    refine wp_region_facts (w0 := W0) 6 2 [7, 8, 9, 10, 5, 6] [undef, undef, undef, undef, undef, undef]
      (fun i => match i with | 0 => eqF (.agg #[.bool b, .slice p0 n0 c0, .slice p1 n1 c1]) | 1 => pairF p (dn q) | 2 => eqF (.agg #[.bool b', .slice p2 n2 c2, .slice p3 n3 c3]) | 3 => pairF r (dn s) | 4 => recF W0.heap.size 47 | _ => recF W0.heap.size 47) [4, 5] (by kernel_rfl) (by kernel_rfl) (by kernel_rfl) (by kernel_rfl) (by decide) rfl (by kernel_rfl) rfl (by simp) ?he1 ?_ ?_ ?_
    case he1 => simp only [putAll, Act.put, List.setIfInBounds_toArray, List.set_cons_zero, List.set_cons_succ]
    · intro i hi v w' h
      simp only [List.mem_cons, List.not_mem_nil, or_false] at hi
      rcases hi with rfl | rfl
      · obtain ⟨g, x1, x2, x3, x4, hg, hp, -⟩ := (show (recF W0.heap.size 47).P v w' from h); exact ⟨g, hg, hp.lt⟩
      · obtain ⟨g, x1, x2, x3, x4, hg, hp, -⟩ := (show (recF W0.heap.size 47).P v w' from h); exact ⟨g, hg, hp.lt⟩
    · intro i o hi ho vs wx hvl hb hdep K hK
      have hvs := len6 hvl
      obtain ⟨s7, s8, s9, s10, s5, s6, rfl⟩ := hvs
      clear hvl
      have hk := HS.out wx hb
      go_split_ands
      rcases i with _ | _ | _ | _ | _ | _ | i
      all_goals (simp only [List.getElem?_toArray, List.getElem?_cons_zero, List.getElem?_cons_succ, Option.some.injEq] at ho)
      all_goals try (subst ho)
      all_goals try simp only [putAll, Act.put, List.setIfInBounds_toArray, List.set_cons_zero, List.set_cons_succ]
      · go_simp
        have hK' := hK.out
        simp only [putAll, Act.put, List.setIfInBounds_toArray, List.set_cons_zero, List.set_cons_succ] at hK'
        exact hK' _ _ rfl (Below.refl _ _) (by simp)
      · have e0 : s7 = _ := hdep ⟨0, .data⟩ (by simp) rfl
        subst e0
        go_simp
        refine (read_any _ p q _ (HRA.out.below hb)).mono ?_
        rintro e wy ⟨vy, rfl, iy, hby⟩
        obtain ⟨e1, e2, e3, e4, e5, e6, e7, e8, rfl, iy0, iy1⟩ := iy
        go_wp2_with fail
        have hK' := hK.out
        simp only [putAll, Act.put, List.setIfInBounds_toArray, List.set_cons_zero, List.set_cons_succ] at hK'
        exact hK' _ _ ⟨_, _, _, _, _, _, _, _, rfl, iy0, iy1⟩ hby (by simp)
      · go_simp
        have hK' := hK.out
        simp only [putAll, Act.put, List.setIfInBounds_toArray, List.set_cons_zero, List.set_cons_succ] at hK'
        exact hK' _ _ rfl (Below.refl _ _) (by simp)
      · have e2 : s9 = _ := hdep ⟨2, .data⟩ (by simp) rfl
        subst e2
        go_simp
        refine (read_any _ r s _ (HRB.out.below hb)).mono ?_
        rintro e wy ⟨vy, rfl, iy, hby⟩
        obtain ⟨e1, e2, e3, e4, e5, e6, e7, e8, rfl, iy0, iy1⟩ := iy
        go_wp2_with fail
        have hK' := hK.out
        simp only [putAll, Act.put, List.setIfInBounds_toArray, List.set_cons_zero, List.set_cons_succ] at hK'
        exact hK' _ _ ⟨_, _, _, _, _, _, _, _, rfl, iy0, iy1⟩ hby (by simp)
      · go_simp
        have hK' := hK.out
        simp only [putAll, Act.put, List.setIfInBounds_toArray, List.set_cons_zero, List.set_cons_succ] at hK'
        exact hK' _ _ ⟨_, _, _, _, _, rfl, Rec.new .., by simp [nonInt], hb.size⟩ (below1 _ _) (fun _ => rfl)
      · go_simp
        have hK' := hK.out
        simp only [putAll, Act.put, List.setIfInBounds_toArray, List.set_cons_zero, List.set_cons_succ] at hK'
        exact hK' _ _ ⟨_, _, _, _, _, rfl, Rec.new .., by simp [nonInt], hb.size⟩ (below1 _ _) (fun _ => rfl)
      · omega
    · intro vs wx hvl hb hf hdist
      have hvs := len6 hvl
      obtain ⟨s7, s8, s9, s10, s5, s6, rfl⟩ := hvs
      have k1 : PairAt wx s8 p (dn q) := hf 1 (by decide)
      have k3 : PairAt wx s10 r (dn s) := hf 3 (by decide)
      have k4 : (recF W0.heap.size 47).P s5 wx := hf 4 (by decide)
      have k5 : (recF W0.heap.size 47).P s6 wx := hf 5 (by decide)
      have hne : s5 ≠ s6 := hdist 4 (by simp) 5 (by simp) (by decide)
      obtain ⟨e1, e2, e3, e4, e5, e6, e7, e8, rfl, i1, i2⟩ := k1
      obtain ⟨f1, f2, f3, f4, f5, f6, f7, f8, rfl, j1, j2⟩ := k3
      obtain ⟨g5, xa, xb, xc, xd, rfl, rec5, non5, hB5⟩ := k4
      obtain ⟨g6, ya, yb, yc, yd, rfl, rec6, non6, hB6⟩ := k5
      have hgne : g5 ≠ g6 := fun e => hne (by rw [e])
      clear hf hdist hvl hne
      have c5 := cells4 rec5
      obtain ⟨x0, x1, x2, x3⟩ := c5
      have f5x := frozen4 rec5
      obtain ⟨y0, y1, y2, y3⟩ := f5x
      refine wpAny_one (i := 6) (by kernel_rfl) rfl ?_
      intro K hK
      simp only [putAll, Act.put, List.setIfInBounds_toArray, List.set_cons_zero, List.set_cons_succ]
      go_simp
      have hK' := hK.out
      apply hK'
      clear hK hK'
      have m5 := put4 rec5 non5 (.bool e1) (.slice e2 e3 e4) (.bool e5) (.slice e6 e7 e8) (by simp [nonInt])
      have i1 := m5.2.raw _ _ i1; have i2 := m5.2.raw _ _ i2; have j1 := m5.2.raw _ _ j1; have j2 := m5.2.raw _ _ j2
      have rec6 := m5.2.rcs _ _ _ hgne.symm rec6
      have hb := m5.2.bel W0.heap.size W0 hB5 hb
      have rec5 := m5.1
      clear m5 x0 x1 x2 x3 y0 y1 y2 y3
      generalize ((((wx.setCell ⟨g5, 0, none⟩ (.bool e1)).setCell ⟨g5, 1, none⟩ (.slice e2 e3 e4)).setCell ⟨g5, 2, none⟩ (.bool e5)).setCell ⟨g5, 3, none⟩ (.slice e6 e7 e8)) = wy at *
      have c6 := cells4 rec6
      obtain ⟨x0, x1, x2, x3⟩ := c6
      have f6x := frozen4 rec6
      obtain ⟨y0, y1, y2, y3⟩ := f6x
      refine wpAny_one (i := 7) (by kernel_rfl) rfl ?_
      intro K hK
      go_simp
      have hK' := hK.out
      apply hK'
      clear hK hK'
      have m6 := put4 rec6 non6 (.bool f1) (.slice f2 f3 f4) (.bool f5) (.slice f6 f7 f8) (by simp [nonInt])
      refine wpAny_done (by kernel_rfl) ?_ _
      refine hKc _ _ (Met.intro (hJc _ _ ?_))
      (repeat apply Exists.intro)
      exact ⟨⟨g5, g6, rfl, rfl, hgne, hB5, hB6, ⟨_, _, _, _, _, _, _, _, m6.2.rcs _ _ _ hgne rec5, m6.2.raw _ _ i1, m6.2.raw _ _ i2⟩, ⟨_, _, _, _, _, _, _, _, m6.1, m6.2.raw _ _ j1, m6.2.raw _ _ j2⟩, m6.2.bel W0.heap.size W0 hB6 hb⟩, rfl⟩
  case rest =>
    obtain ⟨g5, g6, rfl, rfl, hgne, hB5, hB6, V5, V6, hbc⟩ := hcut
    obtain ⟨e1, e2, e3, e4, e5, e6, e7, e8, rec5, A1, A2⟩ := V5
    obtain ⟨f1, f2, f3, f4, f5, f6, f7, f8, rec6, B1, B2⟩ := V6
    have Hrec5 := hid rec5; have Hrec6 := hid rec6
    have HA1 := hid A1; have HA2 := hid A2; have HB1 := hid B1; have HB2 := hid B2; have Hbc := hid hbc
    have HS2 : Hid (∀ w', Below wc.heap.size wc w' → w'.cell? ⟨g5, 0, none⟩ = some (.bool e1) ∧ w'.cell? ⟨g5, 1, none⟩ = some (.slice e2 e3 e4) ∧ w'.cell? ⟨g5, 2, none⟩ = some (.bool e5) ∧ w'.cell? ⟨g5, 3, none⟩ = some (.slice e6 e7 e8) ∧
        w'.cell? ⟨g6, 0, none⟩ = some (.bool f1) ∧ w'.cell? ⟨g6, 1, none⟩ = some (.slice f2 f3 f4) ∧ w'.cell? ⟨g6, 2, none⟩ = some (.bool f5) ∧ w'.cell? ⟨g6, 3, none⟩ = some (.slice f6 f7 f8)) := by
      intro w' hb
      have xa := cells4 (Hrec5.out.below hb)
      have xb := cells4 (Hrec6.out.below hb)
      exact ⟨xa.1, xa.2.1, xa.2.2.1, xa.2.2.2, xb.1, xb.2.1, xb.2.2.1, xb.2.2.2⟩
    clear rec5 rec6 A1 A2 B1 B2 hbc HS HRA HRB Hrec5 Hrec6
    have HSB : Hid (∀ w', Below wc.heap.size wc w' → w'.cell? ⟨g5, 0, none⟩ = some (.bool e1) ∧ w'.cell? ⟨g5, 1, none⟩ = some (.slice e2 e3 e4) ∧ w'.cell? ⟨g5, 2, none⟩ = some (.bool e5) ∧ w'.cell? ⟨g5, 3, none⟩ = some (.slice e6 e7 e8) ∧
        w'.cell? ⟨g6, 0, none⟩ = some (.bool f1) ∧ w'.cell? ⟨g6, 1, none⟩ = some (.slice f2 f3 f4) ∧ w'.cell? ⟨g6, 2, none⟩ = some (.bool f5) ∧ w'.cell? ⟨g6, 3, none⟩ = some (.slice f6 f7 f8) ∧ Below wc.heap.size wc w') := by
      intro w' hb
      obtain ⟨a1, a2, a3, a4, a5, a6, a7, a8⟩ := HS2.out w' hb
      exact ⟨a1, a2, a3, a4, a5, a6, a7, a8, hb⟩
    go_upto_region 2 with fail
    go_region_held3 (fun w' => w'.cell? ⟨g5, 0, none⟩ = some (.bool e1) ∧ w'.cell? ⟨g5, 1, none⟩ = some (.slice e2 e3 e4) ∧ w'.cell? ⟨g5, 2, none⟩ = some (.bool e5) ∧ w'.cell? ⟨g5, 3, none⟩ = some (.slice e6 e7 e8) ∧
        w'.cell? ⟨g6, 0, none⟩ = some (.bool f1) ∧ w'.cell? ⟨g6, 1, none⟩ = some (.slice f2 f3 f4) ∧ w'.cell? ⟨g6, 2, none⟩ = some (.bool f5) ∧ w'.cell? ⟨g6, 3, none⟩ = some (.slice f6 f7 f8) ∧ Below wc.heap.size wc w')
      (first | exact HSB.out _ (Below.drew (Below.refl _ _)) | (refine HSB.out _ (Below.go hb ?_); go_split_ands; assumption))
      (first
        | (go_at_call_of 34 (e2); refine (Mul_any _ _ p (dn s) _ (HA1.out.below (by go_split_ands; assumption)) (HB2.out.below (by go_split_ands; assumption)) (by omega) (by omega)).mono ?_; rintro e wa ⟨v1, rfl, i1, hb⟩; have r1 := i1.raw (by have := la.out; omega))
        | (go_at_call_of 34 (f2); refine (Mul_any _ _ r (dn q) _ (HB1.out.below (by go_split_ands; assumption)) (HA2.out.below (by go_split_ands; assumption)) (by omega) (by omega)).mono ?_; rintro e wa ⟨v2, rfl, i2, hb⟩; have r2 := i2.raw (by have := lb.out; omega))
        | (go_at_call 33; refine (Cmp_any _ _ (p * dn s) (r * dn q) _ (r1.below (by go_split_ands; assumption)) r2).mono ?_; rintro e wb ⟨rfl, hb⟩))
    rename_i hHeld
    go_split_ands
    have HBf := hid (show Below wc.heap.size wc wb by assumption)
    go_wp2_with fail
    go_ret
    exact ⟨rfl, Hbw.out.trans ((Hbc.out.trans (HBf.out.mono (B' := W0.heap.size) Hbc.out.size)).mono (B' := w.heap.size) Hbw.out.size)⟩

end Go.Proofs.Ytlijekppbpefaaa
