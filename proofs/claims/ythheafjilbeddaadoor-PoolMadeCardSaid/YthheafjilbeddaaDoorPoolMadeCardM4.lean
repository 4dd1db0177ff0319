/- Texts put together: MkBuild, MkPick, PlFixed, MkApp, MkNum2, MkWhole, MkTwo, MkBool, MkRows, PlSame2, OpenNum, PlOpen, PlRef7, PlRef8, PlOpen2, PlChecks. -/
import Derived.Test.YthheafjilbeddaaDoorPoolMadeCardM3
import Derived.Deep.RegionWith
import Derived.Lib.SmallJoins
import Derived.ChangeSlices
import Derived.OpenShut
import Derived.Carry
import Derived.Deep.DeepHandedRow
import Derived.ProofKit
import Derived.ChangeSame
import Derived.SizedLaws
import Derived.Deep.RegionHeld3
/- elenchusmake's rows that grow: Make. -/
namespace Go.Proofs.YthheafjilbeddaaDoor
open Go.RowKit Big Go.WideMaps

/-- a term's parts in a row of the call's own, in no block of X -/
def QArg (W0 : World) (X : Nat → Prop) (w : World) (va : Value) (l : List Int) : Prop := w.ownsRow W0.heap.size 3 1 va l.length (zints l) ∧ ∀ k, va.ownBlock = some k → ¬ X k
theorem MfIn.shape {Q : Value → List Int → Prop} {B : Nat} {w : World} {v : Value} {l : List Tm} (h : MfIn Q B w v l) : ∃ p c, v = .slice p l.length c := by
  obtain ⟨cs, h1, -⟩ := h
  exact ownsRow_shape h1
theorem MfIn.q {Q Q' : Value → List Int → Prop} {B : Nat} {w : World} {v : Value} {l : List Tm} (h : MfIn Q B w v l) (hq : ∀ va l, Q va l → Q' va l) : MfIn Q' B w v l := by
  obtain ⟨cs, h1, h2⟩ := h
  refine ⟨cs, h1, ?_⟩
  clear h1
  induction l generalizing cs with
  | nil => exact h2
  | cons t l ih =>
    obtain ⟨c, r, e, ⟨va, vn, e2, k1, k2⟩, hr⟩ := h2
    exact ⟨c, r, e, ⟨va, vn, e2, hq _ _ k1, k2⟩, ih r hr⟩
/-- rows over a tape: the build in block b, its tape in block t; all that is its own lies at or above W0's end -/
structure MkParts (W0 : World) (X : Nat → Prop) (w : World) (b t : Nat) (vB : Value) (bs : List Nat) (p : Po) (us : List Int) (vs vr vy : Value) : Prop where
  tp : TpIn W0 w t vB bs
  ge : W0.heap.size ≤ b
  cell : w.heap[b]? = some (.cells #[vs, vr, .pointer (some ⟨t, 0, none⟩), vy] 88 (0, 0))
  syms : w.ownsRow W0.heap.size 51 3 vs p.syms.length (syCells p.syms)
  rows : MfIn (QArg W0 X w) W0.heap.size w vr p.terms
  used : w.ownsRow W0.heap.size 3 1 vy us.length (zints us)
  mkp : MkP p
  uses : ∀ k ∈ us, ∃ j : Nat, k = (j : Nat) ∧ j < p.syms.length
  arity : ∀ s ∈ p.syms, 0 ≤ s.arity ∧ s.arity ≤ 2
  few : us.length ≤ 256
  xlt : ∀ k, X k → k < w.heap.size
  usx : ∀ k, vy.ownBlock = some k → ¬ X k
def MkAt (W0 : World) (X : Nat → Prop) (w : World) (b t : Nat) (vB : Value) (bs : List Nat) (p : Po) (us : List Int) : Prop := ∃ vs vr vy, MkParts W0 X w b t vB bs p us vs vr vy
theorem MkParts.go {W0 w w' : World} {X : Nat → Prop} {b t : Nat} {vB : Value} {bs : List Nat} {p : Po} {us : List Int} {vs vr vy : Value} (h : MkParts W0 X w b t vB bs p us vs vr vy) (hb : Below w.heap.size w w') : MkParts W0 X w' b t vB bs p us vs vr vy :=
  ⟨h.tp.go hb, h.ge, (hb.block b (lt_of_block h.cell)).trans h.cell, ownsRow_later h.syms hb, (h.rows.below hb).q (fun _ _ q => ⟨ownsRow_later q.1 hb, q.2⟩), ownsRow_later h.used hb, h.mkp, h.uses, h.arity, h.few, fun k hk => Nat.lt_of_lt_of_le (h.xlt k hk) hb.size, h.usx⟩
theorem MkAt.go {W0 w w' : World} {X : Nat → Prop} {b t : Nat} {vB : Value} {bs : List Nat} {p : Po} {us : List Int} (h : MkAt W0 X w b t vB bs p us) (hb : Below w.heap.size w w') : MkAt W0 X w' b t vB bs p us := by
  obtain ⟨vs, vr, vy, h⟩ := h
  exact ⟨vs, vr, vy, h.go hb⟩
/-- what a step answers: a term of sort s, at most n more terms -/
def MkRes (W0 : World) (X : Nat → Prop) (b t : Nat) (vB : Value) (bs : List Nat) (us : List Int) (p : Po) (n : Nat) (s : Int) (tm : Option Tm) (w : World) (e : Ending) (w' : World) : Prop :=
  ∃ (k : Nat) (p' : Po), e = .returned (.int .i64 (k : Nat)) ∧ MkAt W0 X w' b t vB bs p' us ∧ MkExt p p' ∧ IsTm p' k s ∧ (∀ x, tm = some x → p'.terms[k]? = some x) ∧ p'.terms.length ≤ p.terms.length + n ∧ MkFr w w'
theorem four_set {w : World} {g : Nat} {a b c d : Value} {t : TypeId} (h : w.heap[g]? = some (.cells #[a, b, c, d] t (0, 0))) (u0 u1 : Value) : ((w.setCell ⟨g, 0, none⟩ u0).setCell ⟨g, 1, none⟩ u1).heap[g]? = some (.cells #[u0, u1, c, d] t (0, 0)) := by
  have := heap_setCell_same _ g 1 _ _ u1 (heap_setCell_same w g 0 _ _ u0 h)
  simpa using this
theorem mid_res {W0 w Wc w2 wx : World} {X : Nat → Prop} {b t g : Nat} {vB : Value} {bs : List Nat} {p p' : Po} {us : List Int} {vs vr vr' vy : Value} (H : MkParts W0 X w b t vB bs p us vs vr vy) (hbc : Below w.heap.size w Wc) (hmk : MkP p') (hext : MkExt p p')
    (Hin : MfIn (QArg W0 X Wc) W0.heap.size w2 vr' p'.terms) (HA : Apart (fun k => vr.ownBlock = some k) Wc w2) (hv : vr'.ownBlock = vr.ownBlock ∨ ∀ k, vr'.ownBlock = some k → Wc.heap.size ≤ k)
    (hg : w.heap.size ≤ g) (gc : (∃ c, w2.heap[g]? = some (.cells c 27 (0, 0))) ∨ w2.heap.size ≤ g) (hx : Apart (fun k => k = g) w2 wx) :
    wx.heap[b]? = some (.cells #[vs, vr, .pointer (some ⟨t, 0, none⟩), vy] 88 (0, 0)) ∧ MkAt W0 X ((wx.setCell ⟨b, 0, none⟩ vs).setCell ⟨b, 1, none⟩ vr') b t vB bs p' us ∧ MkFr w ((wx.setCell ⟨b, 0, none⟩ vs).setCell ⟨b, 1, none⟩ vr') := by
  obtain ⟨rc, hrow, -⟩ := H.rows
  have hrt : ∀ k, vr.ownBlock = some k → W0.heap.size ≤ k ∧ ∃ c, w.heap[k]? = some (.cells c 39 (0, 0)) := fun k hk => ⟨(World.ownsRow.lt hrow k hk).1, row_tag hrow k hk⟩
  have hne : ∀ (k : Nat) (c : Array Value) (ty : TypeId), w.heap[k]? = some (.cells c ty (0, 0)) → ty ≠ 39 → vr.ownBlock ≠ some k := fun k c ty hc ht e => by
    obtain ⟨-, c', hc'⟩ := hrt k e
    exact tag_ne hc hc' ht rfl
  have hbl := lt_of_block H.cell
  have E2 : ∀ k, k < w.heap.size → vr.ownBlock ≠ some k → w2.heap[k]? = w.heap[k]? := fun k hk hn => (HA.block k (Nat.lt_of_lt_of_le hk hbc.size) hn).trans (hbc.block k hk)
  have E : ∀ k, k < w.heap.size → vr.ownBlock ≠ some k → wx.heap[k]? = w.heap[k]? := fun k hk hn => (hx.block k (by have := hbc.size; have := HA.size; omega) (by omega)).trans (E2 k hk hn)
  have F : ∀ k, k ≠ b → ((wx.setCell ⟨b, 0, none⟩ vs).setCell ⟨b, 1, none⟩ vr').heap[k]? = wx.heap[k]? := fun k hk => (Below.heap_setCell _ _ _ _ hk).trans (Below.heap_setCell _ _ _ _ hk)
  have hbx := (E b hbl (hne b _ _ H.cell (by decide))).trans H.cell
  have hsz : w.heap.size ≤ wx.heap.size := by have := hbc.size; have := HA.size; have := hx.size; omega
  have keep : ∀ (k : Nat) (c : Array Value) (ty : TypeId), w.heap[k]? = some (.cells c ty (0, 0)) → ty ≠ 39 → ty ≠ 88 → ((wx.setCell ⟨b, 0, none⟩ vs).setCell ⟨b, 1, none⟩ vr').heap[k]? = w.heap[k]? := fun k c ty hc h1 h2 =>
    (F k (tag_ne hc H.cell h2)).trans (E k (lt_of_block hc) (hne k c ty hc h1))
  have krow : ∀ {e : TypeId} {s n : Nat} {v : Value} {xs : List Value}, w.ownsRow W0.heap.size e s v n xs → e ≠ 39 → e ≠ 88 → ((wx.setCell ⟨b, 0, none⟩ vs).setCell ⟨b, 1, none⟩ vr').ownsRow W0.heap.size e s v n xs := fun hr h1 h2 => row_stays hr fun k hk => by
    obtain ⟨c, hc⟩ := row_tag hr k hk
    exact keep k c _ hc h1 h2
  have hg2 : ∀ (k : Nat) (c : Array Value) (ty : TypeId), w2.heap[k]? = some (.cells c ty (0, 0)) → ty ≠ 27 → ty ≠ 88 → ((wx.setCell ⟨b, 0, none⟩ vs).setCell ⟨b, 1, none⟩ vr').heap[k]? = w2.heap[k]? := fun k c ty hc h1 h2 => by
    have hb2 := (E2 b hbl (hne b _ _ H.cell (by decide))).trans H.cell
    refine (F k (tag_ne hc hb2 h2)).trans (hx.block k (lt_of_block hc) ?_)
    rcases gc with ⟨c', hc'⟩ | hge
    · exact tag_ne hc hc' h1
    · have := lt_of_block hc; omega
  refine ⟨hbx, ⟨vs, vr', vy, ?_, H.ge, four_set hbx vs vr', by rw [hext.1]; exact krow H.syms (by decide) (by decide), ?_, krow H.used (by decide) (by decide), hmk, by rw [hext.1]; exact H.uses, by rw [hext.1]; exact H.arity, H.few, fun k hk => by have := H.xlt k hk; simp [World.setCell]; omega, H.usx⟩, ?_⟩
  · obtain ⟨h1, h2, h3, h4, a, ha, hc⟩ := H.tp
    refine ⟨h1, h2, h3, ?_, a, ha, (keep t _ _ hc (by decide) (by decide)).trans hc⟩
    exact ⟨(hx.os.trans (HA.os.trans hbc.os)).trans h4.os, (hx.tape.trans (HA.tape.trans hbc.tape)).trans h4.tape, (hx.output.trans (HA.output.trans hbc.output)).trans h4.output, by have := h4.size; simp [World.setCell]; omega,
      fun k hk => by
        have := h4.size
        exact (F k (by have := H.ge; omega)).trans ((E k (by omega) (fun e => by have := (hrt k e).1; omega)).trans (h4.block k hk))⟩
  · have h1 : MfIn (QArg W0 X Wc) W0.heap.size ((wx.setCell ⟨b, 0, none⟩ vs).setCell ⟨b, 1, none⟩ vr') vr' p'.terms := Hin.stays (fun k c ty hc _ hk => by
      rcases hk with rfl | hk
      · exact hg2 k c _ hc (by decide) (by decide)
      · obtain ⟨cs, hr, -⟩ := Hin
        obtain ⟨c', hc'⟩ := row_tag hr k hk
        exact hg2 k c' _ hc' (by decide) (by decide)) (fun k c hc => hg2 k c _ hc (by decide) (by decide))
    refine h1.q fun va l q => ?_
    obtain ⟨q, qx⟩ := q
    have q2 : w2.ownsRow W0.heap.size 3 1 va l.length (zints l) := row_stays q fun k hk => HA.block k (World.ownsRow.lt q k hk).2 (fun e => by
      obtain ⟨c, hc⟩ := row_tag q k hk
      obtain ⟨-, c', hc'⟩ := hrt k e
      exact tag_ne hc ((hbc.block k (lt_of_block hc')).trans hc') (by decide) rfl)
    exact ⟨row_stays q2 fun k hk => by
      obtain ⟨c, hc⟩ := row_tag q2 k hk
      exact hg2 k c _ hc (by decide) (by decide), qx⟩
  · refine ⟨hx.os.trans (HA.os.trans hbc.os), hx.tape.trans (HA.tape.trans hbc.tape), hx.output.trans (HA.output.trans hbc.output), by simp [World.setCell]; omega, fun k o hk hn => ?_⟩
    have hkl := (Array.getElem?_eq_some_iff.1 hk).1
    refine ((F k (fun e => ?_)).trans (E k hkl (fun e => ?_))).trans hk
    · rw [e, H.cell] at hk
      injection hk with hk
      exact (hn _).2.1 hk.symm
    · obtain ⟨-, c, hc⟩ := hrt k e
      rw [hc] at hk
      injection hk with hk
      exact (hn _).2.2 hk.symm
set_option maxRecDepth 100000 in
set_option maxHeartbeats 6400000 in
theorem BMake_any {W0 w : World} {X : Nat → Prop} {b t : Nat} {vB : Value} {bs : List Nat} {p : Po} {us : List Int} (h : MkAt W0 X w b t vB bs p us) (tm : Tm) (va : Value) (bn : Bool) (pn : Option Addr) (nn cn : Nat)
    (ha : QArg W0 X w va tm.args) (hnum : RawAt w (.agg #[.bool bn, .slice pn nn cn]) tm.num) (hw : plWrong p tm = 0) (hl : p.terms.length < 4096) (hs : tm.args.length ≤ 8 ∧ sz W tm.num.natAbs ≤ 8) :
    Calls Tryd.prog 62 #[.pointer (some ⟨b, 0, none⟩), .agg #[.int .i64 tm.op, va, .bool bn, .slice pn nn cn, .int .i64 tm.sym]] w (MkRes W0 X b t vB bs us p 1 (plSort p tm) (some tm) w) := by
  obtain ⟨vs, vr, vy, H⟩ := h
  obtain ⟨pa, ca, rfl⟩ := ownsRow_shape ha.1
  obtain ⟨ps, cs, rfl⟩ := ownsRow_shape H.syms
  obtain ⟨pr, cr, rfl⟩ := H.rows.shape
  obtain ⟨p', k, hm, hmk, hext, hk, hkt, hlen⟩ := H.mkp.make hw hl hs
  have b0 := below1 w (.cells #[.int .i64 tm.op, .slice pa tm.args.length ca, .bool bn, .slice pn nn cn, .int .i64 tm.sym] 39)
  have hX := heap_alloc_new w (.cells #[.int .i64 tm.op, .slice pa tm.args.length ca, .bool bn, .slice pn nn cn, .int .i64 tm.sym] 39)
  have hz := size_alloc w (.cells #[.int .i64 tm.op, .slice pa tm.args.length ca, .bool bn, .slice pn nn cn, .int .i64 tm.sym] 39)
  have hmm : ∀ W', Below w.heap.size w W' → Calls Tryd.prog 14 #[.agg #[.slice ps p.syms.length cs, .slice pr p.terms.length cr], .agg #[.int .i64 tm.op, .slice pa tm.args.length ca, .bool bn, .slice pn nn cn, .int .i64 tm.sym]] W' (MRf (QArg W0 X W') W0.heap.size (.slice ps p.syms.length cs) (.slice pr p.terms.length cr) (p', ((k : Nat) : Int), 0) W') := fun W' hb => by
    have := MMake_any (QArg W0 X W') W0.heap.size p H.mkp.good tm (.slice ps p.syms.length cs) (.slice pr p.terms.length cr) (.agg #[.int .i64 tm.op, .slice pa tm.args.length ca, .bool bn, .slice pn nn cn, .int .i64 tm.sym]) W' (fun va l q => IAt.own (ownsRow_mono q.1 (Nat.zero_le _))) (H.go hb).tp.2.2.2.1.size
      (SyAt.own (ownsRow_mono (H.go hb).syms (Nat.zero_le _))).handed (H.go hb).rows ⟨pa, ca, bn, pn, nn, cn, rfl, IAt.own (ownsRow_mono (ownsRow_later ha.1 hb) (Nat.zero_le _)), hnum.below hb⟩
      (fun c0 va c2 c3 c4 e => by obtain ⟨-, rfl, -, -, -⟩ := agg5 e; exact ⟨ownsRow_later ha.1 hb, ha.2⟩) (Nat.le_trans hs.2 (by decide)) (fun x hx => Nat.le_trans (H.mkp.small x hx).2 (by decide))
    rw [hm] at this
    exact this
  have hnv : ∀ k, w.heap.size ≤ k → ¬ (Value.slice pr p.terms.length cr).ownBlock = some k := fun k hk e => by
    obtain ⟨cs, hrow, -⟩ := H.rows
    have := (World.ownsRow.lt hrow k e).2
    omega
  have Hmm := hid hmm
  have q := H.cell
  have HH := hid H
  clear hmm H hm
  have qb := (b0.block b (lt_of_block q)).trans q
  have q4 := four_cells qb
  have q5 := five_cells hX
  obtain ⟨g0, g1, g2, g3⟩ := q4
  obtain ⟨x0, x1, x2, x3, x4⟩ := q5
  have hb1 := lt_of_block qb
  clear q qb hX
  have hnv := hnv (w.heap.size + 1) (by omega)
  rw [← hz] at hnv
  go_enter Tryd.func62, Tryd.ntmps62
  go_upto_region 1 with fail
  generalize hW : (w.alloc (.cells #[.int .i64 tm.op, .slice pa tm.args.length ca, .bool bn, .slice pn nn cn, .int .i64 tm.sym] 39)) = W1 at *
  have Hz := hid hz
  have hz1 : w.heap.size < W1.heap.size := by omega
  clear hz
  go_region_with (go_at_call 14; refine (Hmm.out _ (by first | exact b0 | exact below_drewN b0 _ | exact b0.drew | exact b0.drew.drew | exact bel_go (below1 _ _) b0 | exact (bel_go (below1 _ _) b0).drew | exact (bel_go (below1 _ _) b0).drew.drew)).mono ?_; rintro e w2 ⟨vr', rfl, hin, hA, hv⟩; obtain ⟨pv, cv, rfl⟩ := hin.shape; try (have hg2 := (hA.block W1.heap.size (by first | (simp; done) | (simp [World.drew]; done) | (show W1.heap.size < (W1.alloc _).heap.size; rw [size_alloc]; omega)) hnv).trans (heap_alloc_new W1 (.cells #[.slice none 0 0, .slice none 0 0] 27)); have q2 := two_cells hg2; obtain ⟨y0, y1, z0, z1⟩ := q2))
  all_goals first
  | (clear y0 y1 z0 z1
     have hm := mid_res (g := W1.heap.size) HH.out (bel_go (below1 W1 (.cells #[.slice none 0 0, .slice none 0 0] 27)) b0).drew hmk hext hin hA hv (by have := Hz.out; omega) (.inl ⟨_, hg2⟩) (Apart.setCell (p := ⟨W1.heap.size, 1, none⟩) (Apart.setCell (p := ⟨W1.heap.size, 0, none⟩) (Apart.refl (fun k => k = W1.heap.size) w2) rfl (.slice ps p.syms.length cs)) rfl (.slice pv p'.terms.length cv))
     have hgx := set2_same hg2 (.slice ps p.syms.length cs) (.slice pv p'.terms.length cv)
     generalize hW2 : ((w2.setCell ⟨W1.heap.size, 0, none⟩ (.slice ps p.syms.length cs)).setCell ⟨W1.heap.size, 1, none⟩ (.slice pv p'.terms.length cv)) = wx at *
     have q2 := two_cells hgx
     obtain ⟨y0, y1, -, -⟩ := q2
     have q4 := four_cells hm.1
     obtain ⟨k0, k1, k2, k3⟩ := q4
     have f0 := frozen_all hm.1 0
     have f1 := frozen_all hm.1 1
     have Hm := hid hm.2
     clear hW2 hg2 hgx hm hin hA hv g0 g1 g2 g3 x0 x1 x2 x3 x4
     go_wp2
     go_ret
     exact ⟨k, p', rfl, Hm.out.1, hext, hk, (fun x e => by injection e with e; exact e ▸ hkt), hlen, Hm.out.2⟩)
  | (have hz2 := hA.size
     have hm := mid_res (g := w2.heap.size) HH.out b0.drew hmk hext hin hA hv (by have := Hz.out; have : W1.heap.size ≤ w2.heap.size := hz2; omega) (.inr (Nat.le_refl _)) (Apart.of_below (S := fun k => k = w2.heap.size) (below1 w2 (.cells #[.slice ps p.syms.length cs, .slice pv p'.terms.length cv] 27)))
     have hgx := heap_alloc_new w2 (.cells #[.slice ps p.syms.length cs, .slice pv p'.terms.length cv] 27)
     generalize hW2 : (w2.alloc (.cells #[.slice ps p.syms.length cs, .slice pv p'.terms.length cv] 27)) = wx at *
     have q2 := two_cells hgx
     obtain ⟨y0, y1, -, -⟩ := q2
     have q4 := four_cells hm.1
     obtain ⟨k0, k1, k2, k3⟩ := q4
     have f0 := frozen_all hm.1 0
     have f1 := frozen_all hm.1 1
     have Hm := hid hm.2
     clear hW2 hgx hm hin hA hv g0 g1 g2 g3 x0 x1 x2 x3 x4
     go_wp2
     go_ret
     exact ⟨k, p', rfl, Hm.out.1, hext, hk, (fun x e => by injection e with e; exact e ▸ hkt), hlen, Hm.out.2⟩)
end Go.Proofs.YthheafjilbeddaaDoor
/- elenchusmake's choice of a symbol. -/
namespace Go.Proofs.YthheafjilbeddaaDoor
open Go.RowKit Big Go.WideMaps

theorem IAt.one (w : World) (a : Int) : IAt (w.alloc (.cells #[.int .i64 a] 3)) (.slice (some ⟨w.heap.size, 0, none⟩) 1 1) [a] :=
  ⟨_, 1, rfl, by simp, by simp [maxLen], nofun, fun _ => ⟨_, 0, rfl, by simp, fun i hi => by
    obtain rfl : i = 0 := by simpa using hi
    rw [cell_of_row _ _ _ _ _ (0, 0) (heap_alloc_new w _)]
    rfl⟩⟩
theorem MkParts.next {W0 w w' : World} {X : Nat → Prop} {b t : Nat} {vB : Value} {bs : List Nat} {p : Po} {us : List Int} {vs vr vy : Value} (h : MkParts W0 X w b t vB bs p us vs vr vy) (ht : TpIn W0 w' t vB bs) (hA : Apart (fun i => i = t) w w') : MkParts W0 X w' b t vB bs p us vs vr vy := by
  have hne : ∀ (k : Nat) (c : Array Value) (ty : TypeId), w.heap[k]? = some (.cells c ty (0, 0)) → ty ≠ 60 → w'.heap[k]? = w.heap[k]? := fun k c ty hc h1 => hA.block k (lt_of_block hc) (by
    obtain ⟨-, -, -, -, a, -, hct⟩ := h.tp
    exact tag_ne hc hct h1)
  have hrow : ∀ {e : TypeId} {s n B : Nat} {v : Value} {xs : List Value}, w.ownsRow B e s v n xs → e ≠ 60 → w'.ownsRow B e s v n xs := fun hr h1 => row_stays hr fun k hk => by
    obtain ⟨c, hc⟩ := row_tag hr k hk
    exact hne k c _ hc h1
  refine ⟨ht, h.ge, (hne b _ _ h.cell (by decide)).trans h.cell, hrow h.syms (by decide), ?_, hrow h.used (by decide), h.mkp, h.uses, h.arity, h.few, fun k hk => Nat.lt_of_lt_of_le (h.xlt k hk) hA.size, h.usx⟩
  exact (h.rows.stays (fun k c ty hc _ hk => by
      rcases hk with rfl | hk
      · exact hne k c _ hc (by decide)
      · obtain ⟨cs, hr, -⟩ := h.rows
        obtain ⟨c', hc'⟩ := row_tag hr k hk
        exact hne k c' _ hc' (by decide)) (fun k c hc => hne k c _ hc (by decide))).q fun _ _ q => ⟨hrow q.1 (by decide), q.2⟩
/-- a symbol of a sort that takes numbers, or takes none -/
def Picked (l : List Sy) (ar so x : Int) : Prop := ∃ j : Nat, x = (j : Nat) ∧ ∃ h : j < l.length, l[j].sort = so ∧ decide (0 < l[j].arity) = decide (0 < ar)
set_option maxRecDepth 100000 in
set_option maxHeartbeats 6400000 in
theorem pick_any {W0 w : World} {X : Nat → Prop} {b t : Nat} {vB : Value} {bs : List Nat} {p : Po} {us : List Int} (h : MkAt W0 X w b t vB bs p us) (ar so : Int) :
    Calls Tryd.prog 81 #[.pointer (some ⟨b, 0, none⟩), .int .i64 ar, .int .i64 so] w (fun e w' => ∃ r : Int, e = .returned (.int .i64 r) ∧ (r = -1 ∨ Picked p.syms ar so r) ∧ MkAt W0 X w' b t vB bs p us ∧ MkFr w w') := by
  obtain ⟨vs, vr, vy, H⟩ := h
  have HH := hid H
  have hsy := (SyAt.own (ownsRow_mono H.syms (Nat.zero_le _))).handed
  obtain ⟨ps, cs, rfl, i1, i2, -, i4⟩ := hsy
  have hus := IAt.own (ownsRow_mono H.used (Nat.zero_le _))
  obtain ⟨py, cy, rfl, j1, j2, -, j4⟩ := hus
  have hfew := H.few
  have H4 := hid i4; have J4 := hid j4
  have q4 := four_cells H.cell
  obtain ⟨k0, k1, k2, k3⟩ := q4
  have hbl := lt_of_block H.cell
  unfold maxLen at i2 j2
  clear H i4 j4
  go_enter Tryd.func81, Tryd.ntmps81
  go_wp2_with fail
  go_loopw [7, 16] (fun o i wr => ∃ (k : Nat) (L : List Int), k ≤ us.length ∧ i = .int .i64 (k : Nat) ∧ L.length ≤ k ∧ wr.ownsRow w.heap.size 3 1 o L.length (zints L) ∧ Hid (∀ x ∈ L, Picked p.syms ar so x) ∧ Hid (Below w.heap.size w wr)) (fun _ i _ => us.length - (intOf i).toNat)
  case atStart => exact ⟨0, [], Nat.zero_le _, rfl, Nat.le_refl _, World.ownsRow_nil _ _ _ _, hid (fun x h => absurd h (by simp)), hid (Below.refl _ _)⟩
  case round =>
    obtain ⟨k, L, hk, rfl, hLk, ho, HL, Hb⟩ := hrel
    have hcb := (Hb.out.block b hbl).trans HH.out.cell
    clear k0 k1 k2 k3
    have q4 := four_cells hcb
    obtain ⟨k0, k1, k2, k3⟩ := q4
    have hbw := Hb.out.size
    by_cases hlt : k < us.length
    · have hlt' : (k : Int) < (us.length : Nat) := by omega
      obtain ⟨bb, off, rfl, o1, o2⟩ := J4.out (by omega)
      have m := (Hb.out.cell (p := ⟨bb, off + k, none⟩) o1).trans (o2 k hlt)
      obtain ⟨j, hj, hjl⟩ := HH.out.uses us[k] (List.getElem_mem hlt)
      rw [hj] at m
      obtain ⟨bc, oc, rfl, s1, s2⟩ := H4.out (by omega)
      obtain ⟨n0, n1, n2⟩ := s2 j hjl
      have n0 := (Hb.out.cell (p := ⟨bc, oc + j * 3, none⟩) s1).trans n0
      have n1 := (Hb.out.cell (p := ⟨bc, oc + j * 3 + 1, none⟩) s1).trans n1
      have n2 := (Hb.out.cell (p := ⟨bc, oc + j * 3 + 2, none⟩) s1).trans n2
      have HP : Hid ((p.syms[j].sort == so) = true → (decide (0 < p.syms[j].arity) == decide (0 < ar)) = true → Picked p.syms ar so (j : Nat)) := hid fun h1 h2 => ⟨j, rfl, hjl, by simpa using h1, by simpa using h2⟩
      have hjl' : (j : Int) < (p.syms.length : Nat) := by omega
      generalize p.syms[j].name = nm at *
      generalize p.syms[j].arity = aj at *
      generalize p.syms[j].sort = sj at *
      have b1 := below1 wr (.cells #[.string ⟨nm.toArray⟩, .int .i64 aj, .int .i64 sj] 51)
      have z1 := size_alloc wr (.cells #[.string ⟨nm.toArray⟩, .int .i64 aj, .int .i64 sj] 51)
      clear hj hcb o2 s2
      cases h1 : (sj == so)
      case false =>
        go_wp2_with fail
        go_roundw
        case rel => exact ⟨k + 1, L, by omega, rfl, by omega, ownsRow_later ho b1, HL, hid (bel_go b1 Hb.out)⟩
        case measure => simp [intOf]; omega
      case true =>
      cases h2 : (decide (0 < aj) == decide (0 < ar))
      case false =>
        go_wp2_with fail
        go_roundw
        case rel => exact ⟨k + 1, L, by omega, rfl, by omega, ownsRow_later ho b1, HL, hid (bel_go b1 Hb.out)⟩
        case measure => simp [intOf]; omega
      case true =>
        have hp := HP.out h1 h2
        have Hp := hid hp
        clear hp HP
        go_upto_region 7 with fail
        generalize hW : (wr.alloc (.cells #[.string ⟨nm.toArray⟩, .int .i64 aj, .int .i64 sj] 51)) = w1 at *
        have b2 := below1 w1 (.cells #[.int .i64 (j : Nat)] 3)
        have ho2 := ownsRow_later ho (bel_go b2 b1)
        have hi2 := IAt.one w1 (j : Nat)
        have z2 := size_alloc w1 (.cells #[.int .i64 (j : Nat)] 3)
        have Hb2 := hid (bel_go b2 (bel_go b1 Hb.out))
        obtain ⟨pL, cL, rfl⟩ := ownsRow_shape ho
        have z1' := b1.size
        have hz2 : w.heap.size ≤ (w1.alloc (.cells #[.int .i64 (j : Nat)] 3)).heap.size := Hb2.out.size
        clear hW ho b1 b2 z1
        go_wp2_with (at_builtin; refine wpList_append_zints rfl _ _ 33 rfl elemInts w.heap.size _ L rfl ho2 _ [((j : Nat) : Int)] rfl hi2 (by simp [maxLen]; omega) (by simp; omega) hz2 ?_; intro v3 w3 ho3 hb3 hz3)
        go_roundw
        case rel => exact ⟨k + 1, L ++ [((j : Nat) : Int)], by omega, rfl, by simp; omega, ho3, hid (fun x hx => by
          rcases List.mem_append.1 hx with h | h
          · exact HL.out x h
          · rw [List.mem_singleton.1 h]; exact Hp.out), hid (Hb2.out.trans hb3)⟩
        case measure => simp [intOf]; omega
    · have hkk : k = us.length := by omega
      subst hkk
      obtain ⟨pL, cL, rfl⟩ := ownsRow_shape ho
      by_cases hL0 : L.length = 0
      case pos =>
        have hm := hid (HH.out.go (Hb.out.mono (B' := w.heap.size) (Nat.le_refl _)))
        rw [hL0] at *
        go_wp2_with fail
        go_ret
        exact ⟨-1, rfl, .inl rfl, ⟨_, _, _, hm.out⟩, MkFr.of_below Hb.out⟩
      case neg =>
        have hn := hid (Next_in ((L.length : Nat) : Int) (HH.out.tp.go Hb.out) (by omega))
        have hL1 : ((L.length : Int) == 0) = false := by rw [beq_eq_false_iff_ne]; omega
        have hL2 : (L.length == 0) = false := by rw [beq_eq_false_iff_ne]; omega
        have hm := HH.out.go Hb.out
        have Hm := hid hm
        clear hm
        go_wp2_with fail
        refine hn.out.mono ?_
        rintro e w3 ⟨q, rfl, hq, ht, hA⟩
        have hqL : q < L.length := by omega
        have htl := Hm.out.tp.2.2.2.2.lt
        have htw := HH.out.tp.2.2.2.2.lt
        have ho3 := row_stays ho (w' := w3) fun k hk => hA.block k (World.ownsRow.lt ho k hk).2 (fun e => by have := (World.ownsRow.lt ho k hk).1; omega)
        have hi3 := IAt.own (ownsRow_mono ho3 (Nat.zero_le _))
        obtain ⟨p3, c3, e3, r1, r2, -, r4⟩ := hi3
        cases e3
        obtain ⟨b3, o3, rfl, t1, t2⟩ := r4 (by omega)
        have m3 := t2 q hqL
        have Hp := hid (HL.out L[q] (List.getElem_mem hqL))
        have HR := hid (And.intro (Hm.out.next ht hA) (show MkFr w w3 from (MkFr.of_below Hb.out).trans (Hm.out.tp.fr hA)))
        unfold maxLen at r2
        generalize L[q] = x at *
        clear r4 t2 ho ho3 ht hA hcb k0 k1 k2 k3 hn hL1 hL2 Hm HL hq
        go_wp2
        go_ret
        exact ⟨x, rfl, .inr Hp.out, ⟨_, _, _, HR.out.1⟩, HR.out.2⟩
end Go.Proofs.YthheafjilbeddaaDoor
/- elenchuslaw04.fixed; PoolNil. -/
namespace Go.Proofs.YthheafjilbeddaaDoor
open Go.RowKit Big Go.WideMaps

theorem zeroRaw (w : World) : RawAt w (.agg #[.bool false, .slice none 0 0]) 0 := ⟨false, _, [], rfl, At.nil _ _, (fun x hx => by cases hx), by simp, by simp [sg, val]⟩
theorem IAt.two (w : World) (a b : Int) : IAt (w.alloc (.cells #[.int .i64 a, .int .i64 b] 3)) (.slice (some ⟨w.heap.size, 0, none⟩) 2 2) [a, b] :=
  ⟨_, 2, rfl, by simp, by simp [maxLen], fun h => (by cases h), fun _ => ⟨_, 0, rfl, by simp, fun i hi => by
    have h := cells_at (c := [.int .i64 a, .int .i64 b]) (heap_alloc_new w (.cells #[.int .i64 a, .int .i64 b] 3)) i
    rw [Go.WideShapes.add_plain] at h
    match i, hi with
    | 0, _ => exact h _ rfl
    | 1, _ => exact h _ rfl⟩⟩
theorem terms_field0 (pa : Option Addr) (na ca : Nat) (pb : Option Addr) (nb cb : Nat) (w : World) : (Instr.field 27 (.agg #[.slice pa na ca, .slice pb nb cb]) 0).run Tryd.prog w = .ok (.slice pa na ca) w := by kernel_rfl
theorem terms_field1 (pa : Option Addr) (na ca : Nat) (pb : Option Addr) (nb cb : Nat) (w : World) : (Instr.field 27 (.agg #[.slice pa na ca, .slice pb nb cb]) 1).run Tryd.prog w = .ok (.slice pb nb cb) w := by kernel_rfl
def tTrue : Tm := ⟨1, [], 0, 0⟩
def tAnd : Tm := ⟨6, [0, 0], 0, 0⟩
theorem mkTrue : plMake ⟨[], [], []⟩ tTrue = (⟨[], [tTrue], [1]⟩, 0, 0) := by kernel_rfl
theorem mkAnd : plMake ⟨[], [tTrue], [1]⟩ tAnd = (⟨[], [tTrue, tAnd], [1, 1]⟩, 1, 0) := by kernel_rfl
theorem mkAnd2 : plMake ⟨[], [tTrue, tAnd], [1, 1]⟩ tAnd = (⟨[], [tTrue, tAnd], [1, 1]⟩, 1, 0) := by kernel_rfl
theorem SyIn.nil (w : World) : SyIn w (.slice none 0 0) [] := ⟨none, 0, rfl, by simp, by simp [maxLen], fun _ => rfl, fun h => absurd h (by simp)⟩

set_option maxRecDepth 100000 in
set_option maxHeartbeats 6400000 in
theorem fixed_any (B : Nat) (w : World) (hB : B ≤ w.heap.size) (htab : Tb B w) : Calls Tryd.prog 9 #[] w (RBool true w) := by
  have Htab := hid htab
  have Hnew := hid (New_any (.slice none 0 0) [] w (SyIn.nil w) (fun s h => by cases h))
  clear htab
  go_enter Tryd.func9, Tryd.ntmps9
  go_wp2_with fail
  refine Hnew.out.mono ?_
  rintro e w1 ⟨-, hok, b1⟩
  obtain ⟨g, S, rfl, hp, hS⟩ := hok (by decide +kernel)
  have hm := Make_any B S g ⟨[], [], []⟩ tTrue (.agg #[.int .i64 1, .slice none 0 0, .bool false, .slice none 0 0, .int .i64 0]) w1 hp (Nat.le_trans hB b1.size) (Htab.out.on (b1.mono hB)) ⟨none, 0, false, none, 0, 0, rfl, IAt.nil _, zeroRaw _⟩ (by decide)
  rw [mkTrue] at hm
  have Hm := hid hm; have HS := hid hS; have Hb1 := hid b1
  clear hm hok hp hS b1 Hnew
  go_wp2_with fail
  refine Hm.out.mono ?_
  rintro e w2 ⟨rfl, S2, hp2, hS2, hA2⟩
  have b2 : Below w.heap.size w w2 := Hb1.out.trans (hA2.below Hb1.out.size HS.out)
  have hS2' : ∀ k, S2 k → w.heap.size ≤ k := fun k hk => by
    rcases hS2 k hk with h | h
    · exact HS.out k h
    · have := Hb1.out.size; omega
  have b2a := below1 w2 (.cells #[.int .i64 0, .int .i64 0] 3)
  have hm := Make_any B S2 g _ tAnd (.agg #[.int .i64 6, .slice (some ⟨w2.heap.size, 0, none⟩) 2 2, .bool false, .slice none 0 0, .int .i64 0]) _ (hp2.below b2a) (Nat.le_trans hB (Nat.le_trans b2.size b2a.size)) (Htab.out.on ((bel_go b2a b2).mono hB)) ⟨_, _, false, none, 0, 0, rfl, IAt.two w2 0 0, zeroRaw _⟩ (by decide)
  rw [mkAnd] at hm
  have Hm := hid hm; have HS2 := hid hS2'; have Hb2 := hid (bel_go b2a b2)
  clear hm hp2 hS2 hS2' b2 b2a HS Hb1 hA2
  go_wp2_with fail
  refine Hm.out.mono ?_
  rintro e w3 ⟨rfl, S3, hp3, hS3, hA3⟩
  have b3 : Below w.heap.size w w3 := Hb2.out.trans (hA3.below Hb2.out.size HS2.out)
  have hS3' : ∀ k, S3 k → w.heap.size ≤ k := fun k hk => by
    rcases hS3 k hk with h | h
    · exact HS2.out k h
    · have := Hb2.out.size; omega
  have b3a := below1 w3 (.cells #[.int .i64 0, .int .i64 0] 3)
  have hm := Make_any B S3 g _ tAnd (.agg #[.int .i64 6, .slice (some ⟨w3.heap.size, 0, none⟩) 2 2, .bool false, .slice none 0 0, .int .i64 0]) _ (hp3.below b3a) (Nat.le_trans hB (Nat.le_trans b3.size b3a.size)) (Htab.out.on ((bel_go b3a b3).mono hB)) ⟨_, _, false, none, 0, 0, rfl, IAt.two w3 0 0, zeroRaw _⟩ (by decide)
  rw [mkAnd2] at hm
  have Hm := hid hm; have HS3 := hid hS3'; have Hb3 := hid (bel_go b3a b3)
  clear hm hp3 hS3 hS3' b3 b3a HS2 Hb2 hA3
  go_wp2_with fail
  refine Hm.out.mono ?_
  rintro e w4 ⟨rfl, S4, hp4, hS4, hA4⟩
  have b4 : Below w.heap.size w w4 := Hb3.out.trans (hA4.below Hb3.out.size HS3.out)
  have Hr := hid (Rows_any S4 g _ w4 hp4)
  have Hb4 := hid b4
  clear hp4 hS4 hA4 b4 HS3 Hb3
  go_wp2_with fail
  refine Hr.out.mono ?_
  rintro e w5 ⟨v, rfl, hro, b5⟩
  obtain ⟨va, vb, rfl, hsy, cs, hrow, -⟩ := hro
  obtain ⟨pa, ca, rfl⟩ := ownsRow_shape hsy
  obtain ⟨pb, cb, rfl⟩ := ownsRow_shape hrow
  have Hb5 := hid (bel_go b5 Hb4.out)
  clear hrow b5 Hr Hm
  clear hsy
  have hfd := fun w' => terms_field1 pa 0 ca pb 2 cb w'
  go_wp2
  go_ret
  exact ⟨rfl, Hb5.out⟩

set_option maxRecDepth 100000 in
set_option maxHeartbeats 1600000 in
theorem Make_nil2 (op sym : Int) (na nm ca cm : Nat) (pa pm : Option Addr) (b : Bool) (w : World) : Calls Tryd.prog 13 #[.pointer none, .agg #[.int .i64 op, .slice pa na ca, .bool b, .slice pm nm cm, .int .i64 sym]] w (RTwo 0 1 w) := by
  go_enter Tryd.func13, Tryd.ntmps13
  go_wp2
  go_ret2
  exact ⟨rfl, below1 _ _⟩
theorem Rows_none (w : World) : Calls Tryd.prog 19 #[.pointer none] w fun e w' => e = .returned (.agg #[.slice none 0 0, .slice none 0 0]) ∧ Below w.heap.size w w' := Rows_nil w
set_option maxRecDepth 100000 in
set_option maxHeartbeats 6400000 in
theorem lawNil_any (op sym : Int) (na nm ca cm : Nat) (pa pm : Option Addr) (b : Bool) (s : Sy) (k : Int) (w : World) (htab : Tb w.heap.size w) : Calls Tryd.prog 8 #[.agg #[.int .i64 op, .slice pa na ca, .bool b, .slice pm nm cm, .int .i64 sym], s.val, .int .i64 k] w (RBool true w) := by
  have Hd := hid (fun W => Declare_nil s W)
  obtain ⟨nam, ar, so⟩ := s
  have hsv : Sy.val ⟨nam, ar, so⟩ = .agg #[.string ⟨nam.toArray⟩, .int .i64 ar, .int .i64 so] := rfl
  rw [hsv] at Hd ⊢
  have bx := heap_alloc_new w (.cells #[.int .i64 op, .slice pa na ca, .bool b, .slice pm nm cm, .int .i64 sym] 39)
  have b0 := below1 w (.cells #[.int .i64 op, .slice pa na ca, .bool b, .slice pm nm cm, .int .i64 sym] 39)
  have bx' := heap_alloc_new (w.alloc (.cells #[.int .i64 op, .slice pa na ca, .bool b, .slice pm nm cm, .int .i64 sym] 39)) (.cells #[.string ⟨nam.toArray⟩, .int .i64 ar, .int .i64 so] 51)
  have b1 := below1 (w.alloc (.cells #[.int .i64 op, .slice pa na ca, .bool b, .slice pm nm cm, .int .i64 sym] 39)) (.cells #[.string ⟨nam.toArray⟩, .int .i64 ar, .int .i64 so] 51)
  have hs0 := size_alloc w (.cells #[.int .i64 op, .slice pa na ca, .bool b, .slice pm nm cm, .int .i64 sym] 39)
  have hs1 := size_alloc (w.alloc (.cells #[.int .i64 op, .slice pa na ca, .bool b, .slice pm nm cm, .int .i64 sym] 39)) (.cells #[.string ⟨nam.toArray⟩, .int .i64 ar, .int .i64 so] 51)
  have bw1 := bel_go b1 b0
  have hfx := fixed_any w.heap.size _ bw1.size (Lib.TabBelow.on htab bw1)
  rw [hs0] at bx' hs1
  have bx1 := (b1.block w.heap.size (by omega)).trans bx
  have Hfx := hid hfx
  clear htab hsv hfx bx b0 b1
  go_enter Tryd.func8, Tryd.ntmps8
  go_wp2_with fail
  generalize hW : ((w.alloc (.cells #[.int .i64 op, .slice pa na ca, .bool b, .slice pm nm cm, .int .i64 sym] 39)).alloc (.cells #[.string ⟨nam.toArray⟩, .int .i64 ar, .int .i64 so] 51)) = W1 at *
  clear hW hs0
  refine Hfx.out.mono ?_
  rintro e w2 ⟨rfl, b2⟩
  have bw2 := bel_go b2 bw1
  have q := five_cells ((b2.block w.heap.size (by omega)).trans bx1)
  obtain ⟨x0, x1, x2, x3, x4⟩ := q
  have bx2 := (b2.block (w.heap.size + 1) (by omega)).trans bx'
  have hz2 := b2.size
  have Hb2 := hid bw2
  have Hm := hid (Make_nil2 op sym na nm ca cm pa pm b w2)
  clear bw2 b2 bx1 bx' bw1 Hfx
  go_wp2_with fail
  refine Hm.out.mono ?_
  rintro e w3 ⟨rfl, b3⟩
  have bx3 := (b3.block (w.heap.size + 1) (by omega)).trans bx2
  have q := three_cells bx3
  have hz3 := b3.size
  have Hb3 := hid (bel_go b3 Hb2.out)
  obtain ⟨y0, y1, y2⟩ := q
  clear b3 bx3 bx2 x0 x1 x2 x3 x4 Hm Hb2
  go_wp2_with fail
  refine (Hd.out _).mono ?_
  rintro e w4 ⟨rfl, b4⟩
  have Hb4 := hid (bel_go b4 Hb3.out)
  clear b4 y0 y1 y2 Hb3
  go_wp2_with fail
  refine (Sort_nil k _).mono ?_
  rintro e w5 ⟨rfl, b5⟩
  have Hb5 := hid (bel_go b5 Hb4.out)
  clear b5 Hb4
  have hf0 := fun w' => terms_field0 none 0 0 none 0 0 w'
  have hf1 := fun w' => terms_field1 none 0 0 none 0 0 w'
  go_wp2_with fail
  refine (Rows_nil _).mono ?_
  rintro e w6 ⟨rfl, b6⟩
  have Hb6 := hid (bel_go b6 Hb5.out)
  clear b6 Hb5
  go_wp2_with fail
  refine (Rows_nil _).mono ?_
  rintro e w7 ⟨rfl, b7⟩
  have Hb7 := hid (bel_go b7 Hb6.out)
  clear b7 Hb6
  go_wp2
  go_ret
  exact ⟨rfl, Hb7.out⟩
end Go.Proofs.YthheafjilbeddaaDoor
/- elenchusmake's terms of symbols. -/
namespace Go.Proofs.YthheafjilbeddaaDoor
open Go.RowKit Big Go.WideMaps

section
variable {P : Program} {w : World} {ops : Array Oper} {rest : List Oper} {o : Oper} {a : Act} {Q : Exit → Act → World → Prop}
/-- wpList_append_zints, told which block may have turned -/
theorem wpList_append_zints_g (hgd : o.guard = none) (s x : Operand) (t : TypeId)
    (ho : o.op = .call { callee := .builtin .append, args := #[s, x], argTypes := #[t, t] })
    {e : TypeId} {size : Nat} (E : Elem P t e .i64 size) (base : Nat) (v : Value) (l : List Int) (hs : a.eval s = v) (hown : w.ownsRow base e 1 v l.length (zints l))
    (vx : Value) (m : List Int) (hx : a.eval x = vx) (hat : IAt w vx m) (hm : 0 < m.length)
    (hlen : l.length + m.length ≤ maxLen) (hbytes : (l.length + m.length) * size ≤ 140737488355328) (hbase : base ≤ w.heap.size)
    (h : ∀ v' w', w'.ownsRow base e 1 v' (l ++ m).length (zints (l ++ m)) → Apart (fun k => v.ownBlock = some k) w w' → (v'.ownBlock = v.ownBlock ∨ v'.ownBlock = some w.heap.size) → wpList P ops Q rest (a.put o.dst v') w') : wpList P ops Q (o :: rest) a w := by
  obtain ⟨i, hi, hz, hsz, hby⟩ := E.row
  obtain ⟨p, cap, rfl, h1, h2, h3, h4⟩ := hat
  obtain ⟨b, off, rfl, hb, hc⟩ := h4 hm
  refine wpList_append_own_at w hgd s x t ho base e i (.int .i64 0) 1 size E.und hi hz hsz hby rfl (by decide) v l.length (zints l) hs hown _ m.length cap (zints m) hx (by simp [zints_length]) ?_ ?_ hlen hbytes hbase ?_
  · intro j u hj
    by_cases hjm : j < m.length
    · rw [Go.WideShapes.add_plain, hc j hjm]
      simpa [zints, hjm] using hj
    · rw [List.getElem?_eq_none (by rw [zints_length]; omega)] at hj; cases hj
  · intro u hu
    obtain ⟨n, _, rfl⟩ := List.mem_map.1 hu
    rfl
  · intro v' w' h5 h6 _ h7
    refine h v' w' ?_ ((Apart.refl _ _).grown h6 (fun k e => e)) h7
    rw [List.length_append, show zints (l ++ m) = zints l ++ zints m by simp [zints]]; exact h5
end
theorem MkParts.app {W0 w w' : World} {S X X' : Nat → Prop} {b t : Nat} {vB : Value} {bs : List Nat} {p : Po} {us : List Int} {vs vr vy : Value} (h : MkParts W0 X w b t vB bs p us vs vr vy) (hA : Apart S w w') (hS : ∀ k, S k → X k ∧ W0.heap.size ≤ k ∧ ∃ c, w.heap[k]? = some (.cells c 3 (0, 0)))
    (hX : ∀ k, X' k → X k ∨ w.heap.size ≤ k) (hl : ∀ k, X' k → k < w'.heap.size) : MkParts W0 X' w' b t vB bs p us vs vr vy := by
  have hne : ∀ (k : Nat) (c : Array Value) (ty : TypeId), w.heap[k]? = some (.cells c ty (0, 0)) → ty ≠ 3 → w'.heap[k]? = w.heap[k]? := fun k c ty hc h1 => hA.block k (lt_of_block hc) (fun hs => by
    obtain ⟨-, -, c', hc'⟩ := hS k hs
    exact tag_ne hc hc' h1 rfl)
  have hrow : ∀ {e : TypeId} {s n B : Nat} {v : Value} {xs : List Value}, w.ownsRow B e s v n xs → e ≠ 3 → w'.ownsRow B e s v n xs := fun hr h1 => row_stays hr fun k hk => by
    obtain ⟨c, hc⟩ := row_tag hr k hk
    exact hne k c _ hc h1
  have hint : ∀ {v : Value} {n : Nat} {xs : List Value}, w.ownsRow W0.heap.size 3 1 v n xs → (∀ k, v.ownBlock = some k → ¬ X k) → w'.ownsRow W0.heap.size 3 1 v n xs ∧ ∀ k, v.ownBlock = some k → ¬ X' k := fun hr hx => ⟨row_stays hr fun k hk => hA.block k (World.ownsRow.lt hr k hk).2 (fun hs => hx k hk (hS k hs).1), fun k hk e => by
    rcases hX k e with h1 | h1
    · exact hx k hk h1
    · have := (World.ownsRow.lt hr k hk).2; omega⟩
  have hu := hint h.used h.usx
  refine ⟨?_, h.ge, (hne b _ _ h.cell (by decide)).trans h.cell, hrow h.syms (by decide), ?_, hu.1, h.mkp, h.uses, h.arity, h.few, hl, hu.2⟩
  · obtain ⟨h1, h2, h3, h4, a, ha, hc⟩ := h.tp
    exact ⟨h1, h2, h3, h4.trans (hA.below h4.size (fun k hk => (hS k hk).2.1)), a, ha, (hne t _ _ hc (by decide)).trans hc⟩
  · exact (h.rows.stays (fun k c ty hc _ hk => by
      rcases hk with rfl | hk
      · exact hne k c _ hc (by decide)
      · obtain ⟨cs, hr, -⟩ := h.rows
        obtain ⟨c', hc'⟩ := row_tag hr k hk
        exact hne k c' _ hc' (by decide)) (fun k c hc => hne k c _ hc (by decide))).q fun _ _ q => hint q.1 q.2
theorem MkAt.app {W0 w w' : World} {S X X' : Nat → Prop} {b t : Nat} {vB : Value} {bs : List Nat} {p : Po} {us : List Int} (h : MkAt W0 X w b t vB bs p us) (hA : Apart S w w') (hS : ∀ k, S k → X k ∧ W0.heap.size ≤ k ∧ ∃ c, w.heap[k]? = some (.cells c 3 (0, 0)))
    (hX : ∀ k, X' k → X k ∨ w.heap.size ≤ k) (hl : ∀ k, X' k → k < w'.heap.size) : MkAt W0 X' w' b t vB bs p us := by
  obtain ⟨vs, vr, vy, h⟩ := h
  exact ⟨vs, vr, vy, h.app hA hS hX hl⟩
theorem MkAt.less {W0 w : World} {X X' : Nat → Prop} {b t : Nat} {vB : Value} {bs : List Nat} {p : Po} {us : List Int} (h : MkAt W0 X w b t vB bs p us) (hX : ∀ k, X' k → X k) : MkAt W0 X' w b t vB bs p us := by
  obtain ⟨vs, vr, vy, h⟩ := h
  exact ⟨vs, vr, vy, h.app (Apart.refl (fun _ => False) w) (fun _ h => h.elim) (fun k hk => .inl (hX k hk)) (fun k hk => h.xlt k (hX k hk))⟩
/-- the loop of app: the parts that are there -/
def AppIn (W0 : World) (X : Nat → Prop) (b t : Nat) (vB : Value) (bs : List Nat) (us : List Int) (p : Po) (m : Nat) (w : World) (o : Value) (k : Nat) (L : List Int) (wr : World) : Prop :=
  ∃ p', L.length = k ∧ wr.ownsRow w.heap.size 3 1 o L.length (zints L) ∧ (∀ x ∈ L, ∃ j : Nat, x = (j : Nat) ∧ IsTm p' j 2) ∧ MkAt W0 (fun i => X i ∨ o.ownBlock = some i) wr b t vB bs p' us ∧ MkExt p p' ∧ p'.terms.length ≤ p.terms.length + k * m ∧ MkFr w wr
set_option maxRecDepth 100000 in
set_option maxHeartbeats 6400000 in
theorem app_any {W0 w : World} {X : Nat → Prop} {b t : Nat} {vB : Value} {bs : List Nat} {p : Po} {us : List Int} (h : MkAt W0 X w b t vB bs p us) (m : Nat) (ar so deep : Int) (other : Nat) (har : ar = 0 ∨ ar = 1) (hd : -100 ≤ deep ∧ deep ≤ 100)
    (hrec : ar = 1 → ∀ X' w' p', MkAt W0 X' w' b t vB bs p' us → p'.terms.length + m ≤ 4096 → Calls Tryd.prog 46 #[.pointer (some ⟨b, 0, none⟩), .int .i64 (deep - 1)] w' (MkRes W0 X' b t vB bs us p' m 2 none w'))
    (hn : p.terms.length + 2 * m + 1 ≤ 4096) (hot : IsTm p other so) :
    Calls Tryd.prog 64 #[.pointer (some ⟨b, 0, none⟩), .int .i64 ar, .int .i64 so, .int .i64 deep, .int .i64 (other : Nat)] w (MkRes W0 X b t vB bs us p (2 * m + 1) so none w) := by
  have Hrec := hid hrec
  have Hpick := hid (pick_any h ar so)
  have Hot := hid hot
  have hW0 : W0.heap.size ≤ w.heap.size := by obtain ⟨_, _, _, h⟩ := h; exact h.tp.2.2.2.1.size
  have hxl : ∀ k, X k → k < w.heap.size := by obtain ⟨_, _, _, h⟩ := h; exact h.xlt
  have Hxl := hid hxl
  have har2 : ∀ s ∈ p.syms, 0 ≤ s.arity ∧ s.arity ≤ 2 := by obtain ⟨_, _, _, h⟩ := h; exact h.arity
  have hp256 : p.syms.length ≤ 256 := by obtain ⟨_, _, _, h⟩ := h; exact h.mkp.good.2.2.1
  clear h hrec hot hxl
  go_enter Tryd.func64, Tryd.ntmps64
  go_wp2_with fail
  refine Hpick.out.mono ?_
  rintro e w1 ⟨r, rfl, hr, hm1, hf1⟩
  have Hm1 := hid hm1; have Hf1 := hid hf1
  clear hm1 hf1 Hpick
  rcases hr with rfl | ⟨j, rfl, hj, hso, haj⟩
  · go_wp2
    go_ret
    exact ⟨other, p, rfl, Hm1.out, MkExt.refl p, Hot.out, (fun x e => by cases e), by omega, Hf1.out⟩
  · have hjp := hj
    have haj2 := har2 p.syms[j] (List.getElem_mem hj)
    have Hso := hid hso
    obtain ⟨aj, haje⟩ : ∃ aj, aj = p.syms[j].arity := ⟨_, rfl⟩
    have Haj := hid haje
    rw [← haje] at haj haj2
    have hjd : decide (((j : Nat) : Int) < 0) = false := by simp
    have hwz := Hf1.out.size
    clear hso haje har2
    go_wp2_with fail
    go_loopw [12, 13] (fun o i wr => ∃ (k : Nat) (L : List Int), i = .int .i64 (k : Nat) ∧ (k : Int) ≤ aj ∧ Hid (AppIn W0 X b t vB bs us p m w o k L wr)) (fun _ i _ => (aj - intOf i).toNat)
    case atStart => exact ⟨0, [], rfl, by omega, hid ⟨p, rfl, World.ownsRow_nil _ _ _ _, (fun x h => absurd h (by simp)), Hm1.out.less (fun k hk => hk.elim id (fun e => by cases e)), MkExt.refl p, by simp, Hf1.out⟩⟩
    case round =>
      obtain ⟨k, L, rfl, hk, Hk⟩ := hrel
      obtain ⟨p', hLk, ho, hL, hm, hext, hlen, hf⟩ := Hk.out
      obtain ⟨pL, cL, rfl⟩ := ownsRow_shape ho
      have hm' := hm
      obtain ⟨vs, vr, vy, H⟩ := hm'
      have hsy := (SyAt.own (ownsRow_mono H.syms (Nat.zero_le _))).handed
      have hes := hext.1
      rw [hes] at hsy
      obtain ⟨ps, cs, rfl, i1, i2, -, i4⟩ := hsy
      obtain ⟨bc, oc, rfl, s1, s2⟩ := i4 (by omega)
      obtain ⟨-, n1, -⟩ := s2 j hjp
      rw [← Haj.out] at n1
      have q4 := four_cells H.cell
      obtain ⟨k0, k1, k2, k3⟩ := q4
      have hjl' : (j : Int) < (p.syms.length : Nat) := by omega
      unfold maxLen at i2
      have HLk := hid hLk; have hLk2 : L.length ≤ k := Nat.le_of_eq hLk; have hLk3 : k ≤ L.length := Nat.le_of_eq hLk.symm; have HL := hid hL; have Hm := hid hm; have Hext := hid hext; have Hlen := hid hlen; have Hf := hid hf
      have hzr := Hf.out.size
      clear s2 i4 H hL hm hext hlen hf hes Hk hLk
      cases hlt : decide ((k : Int) < aj)
      case true =>
        have hka := of_decide_eq_true hlt
        have har1 : ar = 1 := by
          rcases har with rfl | rfl
          · simp at haj; omega
          · rfl
        have hbnd : p'.terms.length + m ≤ 4096 := by
          have := Hlen.out
          have hk2 : k = 0 ∨ k = 1 := by omega
          rcases hk2 with rfl | rfl <;> omega
        have Hcall := hid (Hrec.out har1 _ wr p' Hm.out hbnd)
        clear har1 hbnd
        go_wp2_with fail
        refine Hcall.out.mono ?_
        rintro e w3 ⟨x, p3, rfl, hm3, hext3, hx3, -, hlen3, hf3⟩
        have ho3 := hf3.row ho (by decide) (by decide) (by decide)
        have b4 := below1 w3 (.cells #[.int .i64 (x : Nat)] 3)
        have ho4 := ownsRow_later ho3 b4
        have hi4 := IAt.one w3 (x : Nat)
        have hm4 := hm3.go b4
        have hf4 := (Hf.out.trans hf3).trans (MkFr.of_below b4)
        have hz4 : w.heap.size ≤ (w3.alloc (.cells #[.int .i64 (x : Nat)] 3)).heap.size := hf4.size
        have hz4' : (w3.alloc (.cells #[.int .i64 (x : Nat)] 3)).heap.size = w3.heap.size + 1 := size_alloc w3 _
        have Hm4 := hid hm4; have Hf4 := hid hf4; have Hext3 := hid (Hext.out.trans hext3); have Hx3 := hid hx3; have Hlen3 := hid hlen3
        have HL3 := hid (show ∀ y ∈ L, ∃ i : Nat, y = (i : Nat) ∧ IsTm p3 i 2 from fun y hy => by obtain ⟨i, e1, h1⟩ := HL.out y hy; exact ⟨i, e1, h1.ext hext3⟩)
        have hL2 : L.length ≤ 2 := by omega
        clear ho ho3 hm3 hext3 hx3 hlen3 hf3 b4 hm4 hf4 k0 k1 k2 k3 n1 Hcall Hm Hf Hext HL
        go_wp2_with (at_builtin; refine wpList_append_zints_g rfl _ _ 33 rfl elemInts w.heap.size _ L rfl ho4 _ [((x : Nat) : Int)] rfl hi4 (by simp) (by simp [maxLen]; omega) (by simp; omega) hz4 ?_; intro v5 w5 ho5 hA5 hv5)
        have hS5 : ∀ i, (Value.slice pL L.length cL).ownBlock = some i → (X i ∨ (Value.slice pL L.length cL).ownBlock = some i) ∧ W0.heap.size ≤ i ∧ ∃ c, (w3.alloc (.cells #[.int .i64 (x : Nat)] 3)).heap[i]? = some (.cells c 3 (0, 0)) := fun i hi => ⟨.inr hi, by have := (World.ownsRow.lt ho4 i hi).1; omega, row_tag ho4 i hi⟩
        have hm5 : MkAt W0 (fun i => X i ∨ v5.ownBlock = some i) w5 b t vB bs p3 us := Hm4.out.app hA5 hS5 (fun i hi => by
          rcases hi with h1 | h1
          · exact .inl (.inl h1)
          · rcases hv5 with e | e
            · exact .inl (.inr (e ▸ h1))
            · rw [e] at h1; injection h1 with h1; exact .inr (Nat.le_of_eq h1)) (fun i hi => by
          have hz5 := hA5.size
          rcases hi with h1 | h1
          · have := Hxl.out i h1; omega
          · exact (World.ownsRow.lt ho5 i h1).2)
        have hf5 : MkFr w w5 := ⟨hA5.os.trans Hf4.out.os, hA5.tape.trans Hf4.out.tape, hA5.output.trans Hf4.out.output, Nat.le_trans Hf4.out.size hA5.size, fun i o hi hno => by
          have hil := (Array.getElem?_eq_some_iff.1 hi).1
          have h4 := Hf4.out.block i o hi hno
          exact (hA5.block i (Nat.lt_of_lt_of_le hil hz4) (fun e => by have := (World.ownsRow.lt ho4 i e).1; omega)).trans h4⟩
        have Hfin := hid (show AppIn W0 X b t vB bs us p m w v5 (k + 1) (L ++ [((x : Nat) : Int)]) w5 from ⟨p3, by simp [HLk.out], ho5, fun y hy => by
          rcases List.mem_append.1 hy with h1 | h1
          · exact HL3.out y h1
          · exact ⟨x, List.mem_singleton.1 h1, Hx3.out⟩, hm5, Hext3.out, by
          have h1 := Hlen.out; have h2 := Hlen3.out
          have h3 : (k + 1) * m = k * m + m := by rw [Nat.add_mul, Nat.one_mul]
          omega, hf5⟩)
        clear ho5 hA5 hv5 hS5 hm5 hf5 ho4 hi4
        go_roundw
        case rel => exact ⟨k + 1, _, rfl, by omega, Hfin⟩
        case measure => simp [intOf]; omega
      case false =>
        have hka := of_decide_eq_false hlt
        obtain ⟨hHm1, hHm2⟩ := (show (k : Int) = aj ∧ True from ⟨by omega, trivial⟩)
        have hw4 : plWrong p' ⟨4, L, 0, (j : Nat)⟩ = 0 := by
          refine mk_app p' j L (by rw [Hext.out.1]; exact hjp) ?_ HL.out
          simp only [Hext.out.1]
          rw [← Haj.out, HLk.out]; exact hHm1
        have hso4 : plSort p' ⟨4, L, 0, (j : Nat)⟩ = so := by
          unfold plSort plSymAt
          rw [if_pos rfl, Hext.out.1]
          simp only [Int.toNat_natCast, List.getElem?_eq_getElem hjp, Option.getD_some]
          exact Hso.out
        have hl4 : p'.terms.length < 4096 := by
          have := Hlen.out
          have hk2 : k = 0 ∨ k = 1 ∨ k = 2 := by omega
          rcases hk2 with rfl | rfl | rfl <;> omega
        have hln : p'.terms.length + 1 ≤ p.terms.length + (2 * m + 1) := by
          have := Hlen.out
          have hk2 : k = 0 ∨ k = 1 ∨ k = 2 := by omega
          rcases hk2 with rfl | rfl | rfl <;> omega
        have Hb := hid (BMake_any (Hm.out.less (X' := X) (fun k hk => .inl hk)) ⟨4, L, 0, (j : Nat)⟩ (.slice pL L.length cL) false none 0 0 ⟨ownsRow_mono ho hW0, fun i hi hx => by have h1 := (World.ownsRow.lt ho i hi).1; have := Hxl.out i hx; omega⟩ (zeroRaw wr) hw4 hl4 ⟨by show L.length ≤ 8; omega, by show sz W 0 ≤ 8; rw [sz_zero]; omega⟩)
        rw [hso4] at Hb
        clear hHm1 hHm2 hw4 hso4 hl4 ho
        go_wp2_with fail
        refine Hb.out.mono ?_
        rintro e w6 ⟨x, p6, rfl, hm6, hext6, hx6, -, hlen6, hf6⟩
        have Hfin := hid (show MkRes W0 X b t vB bs us p (2 * m + 1) so none w (.returned (.int .i64 (x : Nat))) w6 from ⟨x, p6, rfl, hm6, Hext.out.trans hext6, hx6, (fun x e => by cases e), by omega, Hf.out.trans hf6⟩)
        clear hm6 hext6 hx6 hlen6 hf6 k0 k1 k2 k3 n1
        go_wp2
        go_ret
        exact Hfin.out
end Go.Proofs.YthheafjilbeddaaDoor
/- elenchusmake's numbers once more: nothing but the tape has turned (made out of XMkNum by gen_mknum2.py). -/
namespace Go.Proofs.YthheafjilbeddaaDoor
open Go.RowKit Big Go.WideMaps

set_option maxRecDepth 100000 in
set_option maxHeartbeats 6400000 in
theorem Num_apart {W0 w : World} {t : Nat} {v : Value} {l : List Nat} (h : TpIn W0 w t v l) :
    Calls Tryd.prog 63 #[.pointer (some ⟨t, 0, none⟩)] w (fun e w' => ∃ u z, e = .returned u ∧ IntAt w' u z ∧ sz W z.natAbs ≤ 8 ∧ TpIn W0 w' t v l ∧ Apart (fun i => i = t) w w') := by
  have b0 := below1 w (.cells #[.bool false, .slice none 0 0] 37)
  have hr0 := heap_alloc_new w (.cells #[.bool false, .slice none 0 0] 37)
  have hz0 := size_alloc w (.cells #[.bool false, .slice none 0 0] 37)
  have htl := h.2.2.2.2.lt
  have htW := h.2.2.1
  have hWw := h.2.2.2.1.size
  have H1 := hid (h.go b0)
  have F1 := hid (Apart.of_below (S := fun i => i = t) b0)
  clear h b0
  go_enter Tryd.func63, Tryd.ntmps63
  go_wp2_with fail
  generalize hW : (w.alloc (.cells #[.bool false, .slice none 0 0] 37)) = W1 at *
  clear hW
  refine (Next_in 9 H1.out (by decide)).mono ?_
  rintro e w1 ⟨k, rfl, hk, h1, hA1⟩
  have hk9 : (k : Int) < 9 := by omega
  have hr1 := (hA1.block w.heap.size (by omega) (by omega)).trans hr0
  have F2 := hid (F1.out.go hA1)
  have H2 := hid h1
  have hz1 := hA1.size
  clear hA1 h1 hr0 hk F1 H1
  go_wp2_with fail
  refine (ROf_any ((k : Int) - 4) w1 (by omega) (by omega)).mono ?_
  rintro e w2 ⟨u, rfl, i2, b2⟩
  obtain ⟨p2, n2, c2, rfl, i2⟩ := i2.shape
  have hr2 := (b2.block w.heap.size (by omega)).trans hr1
  have hz2 := b2.size
  have b3 := below1 w2 (.cells #[.bool (decide ((k : Int) - 4 < 0)), .slice p2 n2 c2] 37)
  have x3 := BoxAt.new i2
  have hz3 := size_alloc w2 (.cells #[.bool (decide ((k : Int) - 4 < 0)), .slice p2 n2 c2] 37)
  have hr3 := (b3.block w.heap.size (by omega)).trans hr2
  have H3 := hid ((H2.out.go b2).go b3)
  have F3 := hid (F2.out.go (Apart.of_below (S := fun i => i = t) (bel_go b3 b2)))
  have X3 := hid x3; have R3 := hid hr3
  have hsz : sz W ((k : Int) - 4).natAbs ≤ 1 := sz_le_of_lt W2 (by unfold W; omega)
  clear hr1 hr2 x3 hr3 i2 b2 b3 F2 H2
  go_wp2_with fail
  generalize hW : (w2.alloc (.cells #[.bool (decide ((k : Int) - 4 < 0)), .slice p2 n2 c2] 37)) = W3 at *
  clear hW
  refine (Next_in 12 H3.out (by decide)).mono ?_
  rintro e w4 ⟨k2, rfl, hk2, h4, hA4⟩
  have hk12 : (k2 : Int) < 12 := by omega
  have X4 := hid (H3.out.box X3.out (by omega) hA4)
  have R4 := hid ((hA4.block w.heap.size (by omega) (by omega)).trans R3.out)
  have F4 := hid (F3.out.go hA4)
  have H4 := hid h4
  have hz4 := hA4.size
  clear hA4 h4 hk2 F3 H3 X3 R3
  have fin : ∀ (wf : World) (z : Int), sz W z.natAbs ≤ 8 → BoxAt wf w2.heap.size z → wf.heap[w.heap.size]? = some (.cells #[.bool false, .slice none 0 0] 37 (0, 0)) → TpIn W0 wf t v l → Apart (fun i => i = t) w wf →
      ∃ p n c, wf.cell? ⟨w2.heap.size, 0, none⟩ = some (.bool (decide (z < 0))) ∧ wf.cell? ⟨w2.heap.size, 1, none⟩ = some (.slice p n c) ∧ wf.cell? ⟨w.heap.size, 0, none⟩ = some (.bool false) ∧ wf.cell? ⟨w.heap.size, 1, none⟩ = some (.slice none 0 0) ∧ wf.frozen? ⟨w.heap.size, 0, none⟩ = false ∧ wf.frozen? ⟨w.heap.size, 1, none⟩ = false ∧
        ((wf.setCell ⟨w.heap.size, 0, none⟩ (.bool (decide (z < 0)))).setCell ⟨w.heap.size, 1, none⟩ (.slice p n c)).cell? ⟨w.heap.size, 0, none⟩ = some (.bool (decide (z < 0))) ∧ ((wf.setCell ⟨w.heap.size, 0, none⟩ (.bool (decide (z < 0)))).setCell ⟨w.heap.size, 1, none⟩ (.slice p n c)).cell? ⟨w.heap.size, 1, none⟩ = some (.slice p n c) ∧
        ∃ u z', u = .agg #[.bool (decide (z < 0)), .slice p n c] ∧ IntAt ((wf.setCell ⟨w.heap.size, 0, none⟩ (.bool (decide (z < 0)))).setCell ⟨w.heap.size, 1, none⟩ (.slice p n c)) u z' ∧ sz W z'.natAbs ≤ 8 ∧ TpIn W0 ((wf.setCell ⟨w.heap.size, 0, none⟩ (.bool (decide (z < 0)))).setCell ⟨w.heap.size, 1, none⟩ (.slice p n c)) t v l ∧ Apart (fun i => i = t) w ((wf.setCell ⟨w.heap.size, 0, none⟩ (.bool (decide (z < 0)))).setCell ⟨w.heap.size, 1, none⟩ (.slice p n c)) := by
    intro wf z hz ⟨p, n, c, x1, x2⟩ hr ht hf
    obtain ⟨q0, q1, -, -⟩ := two_cells x1
    obtain ⟨r0, r1, f0, f1⟩ := two_cells hr
    obtain ⟨s0, s1, -, -⟩ := two_cells (set2_same hr (.bool (decide (z < 0))) (.slice p n c))
    obtain ⟨sx, hsx, ha⟩ := x2
    have hsx : sx = .slice p n c := by simpa using hsx.symm
    subst hsx
    have e1 : (wf.setCell ⟨w.heap.size, 0, none⟩ (.bool (decide (z < 0)))).heap[w.heap.size]? = some (.cells #[.bool (decide (z < 0)), .slice none 0 0] 37 (0, 0)) := by simpa using heap_setCell_same wf w.heap.size 0 _ _ (.bool (decide (z < 0))) hr
    exact ⟨p, n, c, q0, q1, r0, r1, f0, f1, s0, s1, _, z, rfl, ⟨_, rfl, (ha.offRec hr (by simp [noWord]) 0 _).offRec e1 (by simp [noWord]) 1 _⟩, hz, (ht.set (p := ⟨w.heap.size, 0, none⟩) hWw (by show w.heap.size ≠ t; omega) _).set (p := ⟨w.heap.size, 1, none⟩) hWw (by show w.heap.size ≠ t; omega) _, (hf.setNew (q := ⟨w.heap.size, 0, none⟩) (Nat.le_refl _) _).setNew (q := ⟨w.heap.size, 1, none⟩) (Nat.le_refl _) _⟩
  have Fin := hid fin
  clear fin
  by_cases hc : k2 = 1
  case neg =>
    have hc1 : ((k2 : Int) == 1) = false := by simp; omega
    have hc2 : (k2 == 1) = false := by simp; omega
    obtain ⟨p, n, c, q0, q1, r0, r1, f0, f1, s0, s1, hfin⟩ := Fin.out w4 _ (by omega) X4.out R4.out H4.out F4.out
    have Hf := hid hfin
    clear hfin
    go_wp2
    refine bodyPost_ret (v := .agg #[.bool (decide ((k : Int) - 4 < 0)), .slice p n c]) (by simp [results, Tryd.results63, go_sem, s0, s1]) rfl ?_
    obtain ⟨u, z', rfl, h⟩ := Hf.out
    exact ⟨_, z', rfl, h⟩
  case pos =>
    subst hc
    go_wp2_with fail
    refine (ROf_any 1000000007 w4 (by omega) (by omega)).mono ?_
    rintro e w5 ⟨u5, rfl, i5, b5⟩
    obtain ⟨p5, n5, c5, rfl, i5⟩ := i5.shape
    have X5 := hid (X4.out.go b5)
    have R5 := hid ((b5.block w.heap.size (by omega)).trans R4.out)
    have F5 := hid (F4.out.go (Apart.of_below (S := fun i => i = t) b5))
    have H5 := hid (H4.out.go b5)
    have I5 := hid i5
    have hz5 := b5.size
    clear b5 i5 X4 R4 F4 H4
    go_wp2_with fail
    refine (Next_in 200 H5.out (by decide)).mono ?_
    rintro e w6 ⟨k6, rfl, hk6, h6, hA6⟩
    have hk200 : (k6 : Int) < 200 := by omega
    have X6 := hid (H5.out.box X5.out (by omega) hA6)
    have R6 := hid ((hA6.block w.heap.size (by omega) (by omega)).trans R5.out)
    have F6 := hid (F5.out.go hA6)
    have I6 := hid (H5.out.int I5.out hA6)
    have H6 := hid h6
    have hz6 := hA6.size
    clear hA6 h6 hk6 X5 R5 F5 H5 I5
    go_wp2_with fail
    refine (ROf_any ((k6 : Int) - 100) w6 (by omega) (by omega)).mono ?_
    rintro e w7 ⟨u7, rfl, i7, b7⟩
    obtain ⟨p7, n7, c7, rfl, i7⟩ := i7.shape
    have s5 : sz W (1000000007 : Int).natAbs ≤ 1 := sz_le_of_lt W2 (by unfold W; decide)
    have s7 : sz W ((k6 : Int) - 100).natAbs ≤ 1 := sz_le_of_lt W2 (by unfold W; omega)
    have Hm8 := hid (RMul_any _ _ 1000000007 ((k6 : Int) - 100) w7 ((I6.out.below' b7).raw (by omega)) (i7.raw (by omega)) (by omega) (by omega))
    have X7 := hid (X6.out.go b7)
    have R7 := hid ((b7.block w.heap.size (by omega)).trans R6.out)
    have F7 := hid (F6.out.go (Apart.of_below (S := fun i => i = t) b7))
    have H7 := hid (H6.out.go b7)
    have hz7 := b7.size
    clear b7 i7 X6 R6 F6 H6 I6
    go_wp2_with fail
    refine Hm8.out.mono ?_
    rintro e w8 ⟨u8, rfl, i8, b8⟩
    obtain ⟨z8, hz8⟩ : ∃ z8 : Int, z8 = 1000000007 * ((k6 : Int) - 100) := ⟨_, rfl⟩
    rw [← hz8] at i8
    have s8 : sz W z8.natAbs ≤ 1 := sz_le_of_lt W2 (by unfold W; omega)
    obtain ⟨p8, n8, c8, rfl, i8⟩ := i8.shape
    have X8 := hid (X7.out.go b8)
    have R8 := hid ((b8.block w.heap.size (by omega)).trans R7.out)
    have F8 := hid (F7.out.go (Apart.of_below (S := fun i => i = t) b8))
    have H8 := hid (H7.out.go b8)
    have hs8 := b8.size
    clear b8 X7 R7 F7 H7 Hm8 hz8
    have x8 := X8.out
    obtain ⟨p', n', c', x8, -⟩ := x8
    have q := two_cells x8
    obtain ⟨q0, q1, f0, f1⟩ := q
    have hX : w.heap.size ≤ w2.heap.size := by omega
    have X9 := hid (X8.out.set i8)
    have R9 := hid ((Below.heap_setCell (w8.setCell ⟨w2.heap.size, 0, none⟩ (.bool (decide (z8 < 0)))) ⟨w2.heap.size, 1, none⟩ (.slice p8 n8 c8) w.heap.size (by show w.heap.size ≠ w2.heap.size; omega)).trans ((Below.heap_setCell w8 ⟨w2.heap.size, 0, none⟩ (.bool (decide (z8 < 0))) w.heap.size (by show w.heap.size ≠ w2.heap.size; omega)).trans R8.out))
    have F9 := hid ((F8.out.setNew (q := ⟨w2.heap.size, 0, none⟩) hX (.bool (decide (z8 < 0)))).setNew (q := ⟨w2.heap.size, 1, none⟩) hX (.slice p8 n8 c8))
    have H9 := hid ((H8.out.set (p := ⟨w2.heap.size, 0, none⟩) (by show _ ≤ w2.heap.size; omega) (by show w2.heap.size ≠ t; omega) (.bool (decide (z8 < 0)))).set (p := ⟨w2.heap.size, 1, none⟩) (by show _ ≤ w2.heap.size; omega) (by show w2.heap.size ≠ t; omega) (.slice p8 n8 c8))
    have hs9 : w8.heap.size ≤ ((w8.setCell ⟨w2.heap.size, 0, none⟩ (.bool (decide (z8 < 0)))).setCell ⟨w2.heap.size, 1, none⟩ (.slice p8 n8 c8)).heap.size := by simp [World.setCell]
    clear x8 i8 X8 R8 F8 H8
    go_upto_region 4 with fail
    generalize hW : ((w8.setCell ⟨w2.heap.size, 0, none⟩ (.bool (decide (z8 < 0)))).setCell ⟨w2.heap.size, 1, none⟩ (.slice p8 n8 c8)) = w9 at *
    clear hW q0 q1 f0 f1
    have x9 := X9.out
    obtain ⟨p9, n9, c9, x9, i9⟩ := x9
    have q := two_cells x9
    obtain ⟨q0, q1, f0, f1⟩ := q
    have Hm10 := hid (RMul_any _ _ z8 z8 w9 (i9.raw (by omega)) (i9.raw (by omega)) (by omega) (by omega))
    clear x9 i9
    go_wp2_with fail
    refine Hm10.out.mono ?_
    rintro e w10 ⟨u10, rfl, i10, b10⟩
    have s10 : sz W (z8 * z8).natAbs ≤ 8 := by rw [Int.natAbs_mul]; have := sz_mul W2 z8.natAbs z8.natAbs; omega
    generalize z8 * z8 = z10 at *
    obtain ⟨p10, n10, c10, rfl, i10⟩ := i10.shape
    have X10 := hid (X9.out.go b10)
    have R10 := hid ((b10.block w.heap.size (by omega)).trans R9.out)
    have F10 := hid (F9.out.go (Apart.of_below (S := fun i => i = t) b10))
    have H10 := hid (H9.out.go b10)
    have hs10 := b10.size
    clear b10 X9 R9 F9 H9 Hm10 q0 q1 f0 f1
    have x10 := X10.out
    obtain ⟨p', n', c', x10, -⟩ := x10
    have q := two_cells x10
    obtain ⟨q0, q1, f0, f1⟩ := q
    have X11 := hid (X10.out.set i10)
    have R11 := hid ((Below.heap_setCell (w10.setCell ⟨w2.heap.size, 0, none⟩ (.bool (decide (z10 < 0)))) ⟨w2.heap.size, 1, none⟩ (.slice p10 n10 c10) w.heap.size (by show w.heap.size ≠ w2.heap.size; omega)).trans ((Below.heap_setCell w10 ⟨w2.heap.size, 0, none⟩ (.bool (decide (z10 < 0))) w.heap.size (by show w.heap.size ≠ w2.heap.size; omega)).trans R10.out))
    have F11 := hid ((F10.out.setNew (q := ⟨w2.heap.size, 0, none⟩) hX (.bool (decide (z10 < 0)))).setNew (q := ⟨w2.heap.size, 1, none⟩) hX (.slice p10 n10 c10))
    have H11 := hid ((H10.out.set (p := ⟨w2.heap.size, 0, none⟩) (by show _ ≤ w2.heap.size; omega) (by show w2.heap.size ≠ t; omega) (.bool (decide (z10 < 0)))).set (p := ⟨w2.heap.size, 1, none⟩) (by show _ ≤ w2.heap.size; omega) (by show w2.heap.size ≠ t; omega) (.slice p10 n10 c10))
    clear x10 i10 X10 R10 F10 H10
    go_upto_region 5 with fail
    generalize hW : ((w10.setCell ⟨w2.heap.size, 0, none⟩ (.bool (decide (z10 < 0)))).setCell ⟨w2.heap.size, 1, none⟩ (.slice p10 n10 c10)) = w11 at *
    clear hW q0 q1 f0 f1
    obtain ⟨p, n, c, q0, q1, r0, r1, f0, f1, s0, s1, hfin⟩ := Fin.out w11 _ (by omega) X11.out R11.out H11.out F11.out
    have Hf := hid hfin
    clear hfin
    go_wp2
    refine bodyPost_ret (v := .agg #[.bool (decide (z10 < 0)), .slice p n c]) (by simp [results, Tryd.results63, go_sem, s0, s1]) rfl ?_
    obtain ⟨u, z', rfl, h⟩ := Hf.out
    exact ⟨_, z', rfl, h⟩
end Go.Proofs.YthheafjilbeddaaDoor
/- elenchusmake's Whole and Bool (made by gen_mkwhole.py). -/
namespace Go.Proofs.YthheafjilbeddaaDoor
open Go.RowKit Big Go.WideMaps

theorem QArg.nil (W0 : World) (X : Nat → Prop) (w : World) : QArg W0 X w (.slice none 0 0) [] := ⟨World.ownsRow_nil _ _ _ _, fun k h => by cases h⟩
theorem MkAt.base {W0 w : World} {X : Nat → Prop} {b t : Nat} {vB : Value} {bs : List Nat} {p : Po} {us : List Int} (h : MkAt W0 X w b t vB bs p us) : W0.heap.size ≤ w.heap.size := by
  obtain ⟨_, _, _, h⟩ := h
  exact h.tp.2.2.2.1.size
theorem MkAt.xlt {W0 w : World} {X : Nat → Prop} {b t : Nat} {vB : Value} {bs : List Nat} {p : Po} {us : List Int} (h : MkAt W0 X w b t vB bs p us) : ∀ k, X k → k < w.heap.size := by
  obtain ⟨_, _, _, h⟩ := h
  exact h.xlt
theorem MkAt.mkp {W0 w : World} {X : Nat → Prop} {b t : Nat} {vB : Value} {bs : List Nat} {p : Po} {us : List Int} (h : MkAt W0 X w b t vB bs p us) : MkP p := by
  obtain ⟨_, _, _, h⟩ := h
  exact h.mkp
theorem MkAt.tp {W0 w : World} {X : Nat → Prop} {b t : Nat} {vB : Value} {bs : List Nat} {p : Po} {us : List Int} (h : MkAt W0 X w b t vB bs p us) : TpIn W0 w t vB bs := by
  obtain ⟨_, _, _, h⟩ := h
  exact h.tp
theorem MkAt.next {W0 w w' : World} {X : Nat → Prop} {b t : Nat} {vB : Value} {bs : List Nat} {p : Po} {us : List Int} (h : MkAt W0 X w b t vB bs p us) (ht : TpIn W0 w' t vB bs) (hA : Apart (fun i => i = t) w w') : MkAt W0 X w' b t vB bs p us := by
  obtain ⟨vs, vr, vy, h⟩ := h
  exact ⟨vs, vr, vy, h.next ht hA⟩
/-- the build's field that holds the tape -/
theorem MkAt.cell2 {W0 w : World} {X : Nat → Prop} {b t : Nat} {vB : Value} {bs : List Nat} {p : Po} {us : List Int} (h : MkAt W0 X w b t vB bs p us) : w.cell? ⟨b, 2, none⟩ = some (.pointer (some ⟨t, 0, none⟩)) := by
  obtain ⟨_, _, _, h⟩ := h
  exact (four_cells h.cell).2.2.1
/-- a row of parts, just made -/
theorem QArg.new {W0 w : World} {X : Nat → Prop} (hb : W0.heap.size ≤ w.heap.size) (hx : ∀ k, X k → k < w.heap.size) (l : List Int) (c : Array Value) (hc : c = (zints l).toArray) (n : Nat) (hn : n = l.length) (hm : l.length ≤ 100) : QArg W0 X (w.alloc (.cells c 3)) (.slice (some ⟨w.heap.size, 0, none⟩) n n) l := by
  subst hn hc
  exact ⟨⟨by simp [zints], .inr ⟨w.heap.size, l.length, (zints l).toArray, rfl, hb, heap_alloc_new w _, Nat.le_refl _, by simp [maxLen]; omega, by simp [zints], by simp [zints]; exact List.take_of_length_le (by simp)⟩⟩, fun k hk h => by
    have hk : w.heap.size = k := Option.some.inj hk
    have := hx k h
    omega⟩
theorem QArg.later {W0 w w' : World} {X : Nat → Prop} {va : Value} {l : List Int} (h : QArg W0 X w va l) (hb : Below w.heap.size w w') : QArg W0 X w' va l := ⟨ownsRow_later h.1 hb, h.2⟩
def mkN : Nat → Nat
  | 0 => 2
  | d + 1 => 3 * mkN d + 3
set_option maxRecDepth 100000 in
set_option maxHeartbeats 12800000 in
theorem Whole_step {W0 w : World} {X : Nat → Prop} {b t : Nat} {vB : Value} {bs : List Nat} {p : Po} {us : List Int} (h : MkAt W0 X w b t vB bs p us) (deep : Int) (m n : Nat) (hd0 : 0 ≤ deep) (hd1 : deep ≤ 100) (hn2 : 2 ≤ n) (hn3 : 1 ≤ deep → 3 * m + 3 ≤ n) (hn : p.terms.length + n ≤ 4096)
    (hW : 1 ≤ deep → ∀ X w p, MkAt W0 X w b t vB bs p us → p.terms.length + m ≤ 4096 → Calls Tryd.prog 46 #[.pointer (some ⟨b, 0, none⟩), .int .i64 (deep - 1)] w (MkRes W0 X b t vB bs us p m 2 none w))
    (hB : 1 ≤ deep → ∀ X w p, MkAt W0 X w b t vB bs p us → p.terms.length + m ≤ 4096 → Calls Tryd.prog 47 #[.pointer (some ⟨b, 0, none⟩), .int .i64 (deep - 1)] w (MkRes W0 X b t vB bs us p m 1 none w))
    (hZ : 1 ≤ deep → ∀ X w p, MkAt W0 X w b t vB bs p us → p.terms.length + 2 ≤ 4096 → Calls Tryd.prog 46 #[.pointer (some ⟨b, 0, none⟩), .int .i64 0] w (MkRes W0 X b t vB bs us p 2 2 none w)) :
    Calls Tryd.prog 46 #[.pointer (some ⟨b, 0, none⟩), .int .i64 deep] w (MkRes W0 X b t vB bs us p n 2 none w) := by
  have HM0 := hid h
  have c2 := h.cell2
  have Hx := hid (Next_in 9 h.tp (by decide))
  have HWr := hid hW; have HBr := hid hB; have HZr := hid hZ
  clear h hW hB hZ
  go_enter Tryd.func46, Tryd.ntmps46
  go_wp2_with fail
  refine Hx.out.mono ?_
  rintro e w1 ⟨q, rfl, hq, ht, hA⟩
  have hq1 : q < 9 := by omega
  obtain ⟨p1, hp1⟩ : ∃ q, q = p := ⟨_, rfl⟩
  have HM1 := hid (show MkAt W0 X w1 b t vB bs p1 us from hp1 ▸ HM0.out.next ht hA)
  have HF1 := hid (HM0.out.tp.fr hA)
  have HE1 := hid (show MkExt p p1 from hp1 ▸ MkExt.refl p)
  have hl1 : p1.terms.length ≤ p.terms.length := by rw [hp1]; exact Nat.le_refl _
  clear ht hA hq HM0 Hx c2 hp1
  cases hdp : decide (deep < 1)
  case true =>
    have hd2 : deep < 1 := of_decide_eq_true hdp
    obtain ⟨r, hr⟩ : ∃ r : Nat, (q : Int) % 3 = (r : Nat) := ⟨((q : Int) % 3).toNat, by omega⟩
    have hr3 : r < 3 := by omega
    go_upto_region 4 with fail
    generalize hqr : (q : Int) % 3 = qr at *
    subst hr
    clear hqr
    rcases (show r = 0 ∨ r = 1 ∨ r = 2 by omega) with rfl | rfl | rfl
    ·
      have c2 := HM1.out.cell2
      have Hn2 := hid (Num_apart HM1.out.tp)
      go_wp2_with fail
      refine Hn2.out.mono ?_
      rintro e w2 ⟨u, z, rfl, iz, hz, ht2, hA2⟩
      obtain ⟨pz, nz, cz, rfl, iz⟩ := iz.shape
      have HM2 := hid (HM1.out.next ht2 hA2); have HF2 := hid (HF1.out.trans (HM1.out.tp.fr hA2)); have HR := hid (iz.raw (by omega))
      have HE2 := HE1
      have hl2 := hl1
      obtain ⟨p2, hp2⟩ : ∃ q, q = p1 := ⟨_, rfl⟩
      subst hp2
      clear ht2 hA2 iz Hn2 HM1 HF1 c2 HE1
      have HMa := HM2; have HFa := HF2; have HQ := hid (QArg.nil W0 X w2)
      have hb3 := BMake_any HMa.out ⟨3, [], z, 0⟩ (.slice none 0 0) (decide (z < 0)) pz nz cz HQ.out HR.out (mk_num _ z) (by omega) ⟨by simp, by exact hz⟩
      rw [show plSort _ ⟨3, [], z, 0⟩ = 2 from rfl] at hb3
      have Hb3 := hid hb3
      clear hb3 HQ
      go_wp2_with fail
      refine Hb3.out.mono ?_
      rintro e w3 ⟨x, p3, rfl, hm3, he3, hx, -, hl3, hf3⟩
      have HM3 := hid hm3; have HE3 := hid (HE2.out.trans he3); have HF3 := hid (HFa.out.trans hf3)
      have Ix := hid hx
      clear hm3 he3 hf3 hx Hb3 HM2 HE2 HF2 HMa HFa
      have Hfin := hid (show MkRes W0 X b t vB bs us p n 2 none w (.returned (.int .i64 (x : Nat))) w3 from ⟨x, p3, rfl, HM3.out, HE3.out, Ix.out, (fun x e => by cases e), by omega, HF3.out⟩)
      go_wp2
      go_ret
      exact Hfin.out
    ·
      have c2 := HM1.out.cell2
      have Hn2 := hid (Num_apart HM1.out.tp)
      go_wp2_with fail
      refine Hn2.out.mono ?_
      rintro e w2 ⟨u, z, rfl, iz, hz, ht2, hA2⟩
      obtain ⟨pz, nz, cz, rfl, iz⟩ := iz.shape
      have HM2 := hid (HM1.out.next ht2 hA2); have HF2 := hid (HF1.out.trans (HM1.out.tp.fr hA2)); have HR := hid (iz.raw (by omega))
      have HE2 := HE1
      have hl2 := hl1
      obtain ⟨p2, hp2⟩ : ∃ q, q = p1 := ⟨_, rfl⟩
      subst hp2
      clear ht2 hA2 iz Hn2 HM1 HF1 c2 HE1
      have HMa := HM2; have HFa := HF2; have HQ := hid (QArg.nil W0 X w2)
      have hb3 := BMake_any HMa.out ⟨3, [], z, 0⟩ (.slice none 0 0) (decide (z < 0)) pz nz cz HQ.out HR.out (mk_num _ z) (by omega) ⟨by simp, by exact hz⟩
      rw [show plSort _ ⟨3, [], z, 0⟩ = 2 from rfl] at hb3
      have Hb3 := hid hb3
      clear hb3 HQ
      go_wp2_with fail
      refine Hb3.out.mono ?_
      rintro e w3 ⟨x, p3, rfl, hm3, he3, hx, -, hl3, hf3⟩
      have HM3 := hid hm3; have HE3 := hid (HE2.out.trans he3); have HF3 := hid (HFa.out.trans hf3)
      have Ix := hid hx
      clear hm3 he3 hf3 hx Hb3 HM2 HE2 HF2 HMa HFa
      have Ha4 := hid (app_any HM3.out 0 0 2 0 x (by omega) (by constructor <;> omega) (fun h => absurd h (by decide)) (by omega) Ix.out)
      go_wp2_with fail
      refine Ha4.out.mono ?_
      rintro e w4 ⟨y, p4, rfl, hm4, he4, hy, -, hl4, hf4⟩
      have HM4 := hid hm4; have HE4 := hid (HE3.out.trans he4); have HF4 := hid (HF3.out.trans hf4)
      have Iy := hid hy
      clear hm4 he4 hf4 hy Ha4
      have Hfin := hid (show MkRes W0 X b t vB bs us p n 2 none w (.returned (.int .i64 (y : Nat))) w4 from ⟨y, p4, rfl, HM4.out, HE4.out, Iy.out, (fun x e => by cases e), by omega, HF4.out⟩)
      go_wp2
      go_ret
      exact Hfin.out
    ·
      have c2 := HM1.out.cell2
      have Hn2 := hid (Num_apart HM1.out.tp)
      go_wp2_with fail
      refine Hn2.out.mono ?_
      rintro e w2 ⟨u, z, rfl, iz, hz, ht2, hA2⟩
      obtain ⟨pz, nz, cz, rfl, iz⟩ := iz.shape
      have HM2 := hid (HM1.out.next ht2 hA2); have HF2 := hid (HF1.out.trans (HM1.out.tp.fr hA2)); have HR := hid (iz.raw (by omega))
      have HE2 := HE1
      have hl2 := hl1
      obtain ⟨p2, hp2⟩ : ∃ q, q = p1 := ⟨_, rfl⟩
      subst hp2
      clear ht2 hA2 iz Hn2 HM1 HF1 c2 HE1
      have HMa := HM2; have HFa := HF2; have HQ := hid (QArg.nil W0 X w2)
      have hb3 := BMake_any HMa.out ⟨3, [], z, 0⟩ (.slice none 0 0) (decide (z < 0)) pz nz cz HQ.out HR.out (mk_num _ z) (by omega) ⟨by simp, by exact hz⟩
      rw [show plSort _ ⟨3, [], z, 0⟩ = 2 from rfl] at hb3
      have Hb3 := hid hb3
      clear hb3 HQ
      go_wp2_with fail
      refine Hb3.out.mono ?_
      rintro e w3 ⟨x, p3, rfl, hm3, he3, hx, -, hl3, hf3⟩
      have HM3 := hid hm3; have HE3 := hid (HE2.out.trans he3); have HF3 := hid (HFa.out.trans hf3)
      have Ix := hid hx
      clear hm3 he3 hf3 hx Hb3 HM2 HE2 HF2 HMa HFa
      have Ha4 := hid (app_any HM3.out 0 0 2 0 x (by omega) (by constructor <;> omega) (fun h => absurd h (by decide)) (by omega) Ix.out)
      go_wp2_with fail
      refine Ha4.out.mono ?_
      rintro e w4 ⟨y, p4, rfl, hm4, he4, hy, -, hl4, hf4⟩
      have HM4 := hid hm4; have HE4 := hid (HE3.out.trans he4); have HF4 := hid (HF3.out.trans hf4)
      have Iy := hid hy
      clear hm4 he4 hf4 hy Ha4
      have Hfin := hid (show MkRes W0 X b t vB bs us p n 2 none w (.returned (.int .i64 (y : Nat))) w4 from ⟨y, p4, rfl, HM4.out, HE4.out, Iy.out, (fun x e => by cases e), by omega, HF4.out⟩)
      go_wp2
      go_ret
      exact Hfin.out
  case false =>
    have hd2 : 1 ≤ deep := by have := of_decide_eq_false hdp; omega
    have HW := hid (HWr.out hd2); have HB := hid (HBr.out hd2); have HZ := hid (HZr.out hd2)
    have hn4 := hn3 hd2
    clear HWr HBr HZr
    rcases (show q = 0 ∨ q = 1 ∨ q = 2 ∨ q = 3 ∨ q = 4 ∨ q = 5 ∨ q = 6 ∨ q = 7 ∨ q = 8 by omega) with rfl | rfl | rfl | rfl | rfl | rfl | rfl | rfl | rfl
    ·
      have c2 := HM1.out.cell2
      have Hn2 := hid (Num_apart HM1.out.tp)
      go_wp2_with fail
      refine Hn2.out.mono ?_
      rintro e w2 ⟨u, z, rfl, iz, hz, ht2, hA2⟩
      obtain ⟨pz, nz, cz, rfl, iz⟩ := iz.shape
      have HM2 := hid (HM1.out.next ht2 hA2); have HF2 := hid (HF1.out.trans (HM1.out.tp.fr hA2)); have HR := hid (iz.raw (by omega))
      have HE2 := HE1
      have hl2 := hl1
      obtain ⟨p2, hp2⟩ : ∃ q, q = p1 := ⟨_, rfl⟩
      subst hp2
      clear ht2 hA2 iz Hn2 HM1 HF1 c2 HE1
      have HMa := HM2; have HFa := HF2; have HQ := hid (QArg.nil W0 X w2)
      have hb3 := BMake_any HMa.out ⟨3, [], z, 0⟩ (.slice none 0 0) (decide (z < 0)) pz nz cz HQ.out HR.out (mk_num _ z) (by omega) ⟨by simp, by exact hz⟩
      rw [show plSort _ ⟨3, [], z, 0⟩ = 2 from rfl] at hb3
      have Hb3 := hid hb3
      clear hb3 HQ
      go_wp2_with fail
      refine Hb3.out.mono ?_
      rintro e w3 ⟨x, p3, rfl, hm3, he3, hx, -, hl3, hf3⟩
      have HM3 := hid hm3; have HE3 := hid (HE2.out.trans he3); have HF3 := hid (HFa.out.trans hf3)
      have Ix := hid hx
      clear hm3 he3 hf3 hx Hb3 HM2 HE2 HF2 HMa HFa
      have Hfin := hid (show MkRes W0 X b t vB bs us p n 2 none w (.returned (.int .i64 (x : Nat))) w3 from ⟨x, p3, rfl, HM3.out, HE3.out, Ix.out, (fun x e => by cases e), by omega, HF3.out⟩)
      go_wp2
      go_ret
      exact Hfin.out
    ·
      have c2 := HM1.out.cell2
      have Hn2 := hid (Num_apart HM1.out.tp)
      go_wp2_with fail
      refine Hn2.out.mono ?_
      rintro e w2 ⟨u, z, rfl, iz, hz, ht2, hA2⟩
      obtain ⟨pz, nz, cz, rfl, iz⟩ := iz.shape
      have HM2 := hid (HM1.out.next ht2 hA2); have HF2 := hid (HF1.out.trans (HM1.out.tp.fr hA2)); have HR := hid (iz.raw (by omega))
      have HE2 := HE1
      have hl2 := hl1
      obtain ⟨p2, hp2⟩ : ∃ q, q = p1 := ⟨_, rfl⟩
      subst hp2
      clear ht2 hA2 iz Hn2 HM1 HF1 c2 HE1
      have HMa := HM2; have HFa := HF2; have HQ := hid (QArg.nil W0 X w2)
      have hb3 := BMake_any HMa.out ⟨3, [], z, 0⟩ (.slice none 0 0) (decide (z < 0)) pz nz cz HQ.out HR.out (mk_num _ z) (by omega) ⟨by simp, by exact hz⟩
      rw [show plSort _ ⟨3, [], z, 0⟩ = 2 from rfl] at hb3
      have Hb3 := hid hb3
      clear hb3 HQ
      go_wp2_with fail
      refine Hb3.out.mono ?_
      rintro e w3 ⟨x, p3, rfl, hm3, he3, hx, -, hl3, hf3⟩
      have HM3 := hid hm3; have HE3 := hid (HE2.out.trans he3); have HF3 := hid (HFa.out.trans hf3)
      have Ix := hid hx
      clear hm3 he3 hf3 hx Hb3 HM2 HE2 HF2 HMa HFa
      have Ha4 := hid (app_any HM3.out 0 0 2 0 x (by omega) (by constructor <;> omega) (fun h => absurd h (by decide)) (by omega) Ix.out)
      go_wp2_with fail
      refine Ha4.out.mono ?_
      rintro e w4 ⟨y, p4, rfl, hm4, he4, hy, -, hl4, hf4⟩
      have HM4 := hid hm4; have HE4 := hid (HE3.out.trans he4); have HF4 := hid (HF3.out.trans hf4)
      have Iy := hid hy
      clear hm4 he4 hf4 hy Ha4
      have Hfin := hid (show MkRes W0 X b t vB bs us p n 2 none w (.returned (.int .i64 (y : Nat))) w4 from ⟨y, p4, rfl, HM4.out, HE4.out, Iy.out, (fun x e => by cases e), by omega, HF4.out⟩)
      go_wp2
      go_ret
      exact Hfin.out
    ·
      have c2 := HM1.out.cell2
      have Hn2 := hid (Num_apart HM1.out.tp)
      go_wp2_with fail
      refine Hn2.out.mono ?_
      rintro e w2 ⟨u, z, rfl, iz, hz, ht2, hA2⟩
      obtain ⟨pz, nz, cz, rfl, iz⟩ := iz.shape
      have HM2 := hid (HM1.out.next ht2 hA2); have HF2 := hid (HF1.out.trans (HM1.out.tp.fr hA2)); have HR := hid (iz.raw (by omega))
      have HE2 := HE1
      have hl2 := hl1
      obtain ⟨p2, hp2⟩ : ∃ q, q = p1 := ⟨_, rfl⟩
      subst hp2
      clear ht2 hA2 iz Hn2 HM1 HF1 c2 HE1
      have HMa := HM2; have HFa := HF2; have HQ := hid (QArg.nil W0 X w2)
      have hb3 := BMake_any HMa.out ⟨3, [], z, 0⟩ (.slice none 0 0) (decide (z < 0)) pz nz cz HQ.out HR.out (mk_num _ z) (by omega) ⟨by simp, by exact hz⟩
      rw [show plSort _ ⟨3, [], z, 0⟩ = 2 from rfl] at hb3
      have Hb3 := hid hb3
      clear hb3 HQ
      go_wp2_with fail
      refine Hb3.out.mono ?_
      rintro e w3 ⟨x, p3, rfl, hm3, he3, hx, -, hl3, hf3⟩
      have HM3 := hid hm3; have HE3 := hid (HE2.out.trans he3); have HF3 := hid (HFa.out.trans hf3)
      have Ix := hid hx
      clear hm3 he3 hf3 hx Hb3 HM2 HE2 HF2 HMa HFa
      have Ha4 := hid (app_any HM3.out 0 0 2 0 x (by omega) (by constructor <;> omega) (fun h => absurd h (by decide)) (by omega) Ix.out)
      go_wp2_with fail
      refine Ha4.out.mono ?_
      rintro e w4 ⟨y, p4, rfl, hm4, he4, hy, -, hl4, hf4⟩
      have HM4 := hid hm4; have HE4 := hid (HE3.out.trans he4); have HF4 := hid (HF3.out.trans hf4)
      have Iy := hid hy
      clear hm4 he4 hf4 hy Ha4
      have Hfin := hid (show MkRes W0 X b t vB bs us p n 2 none w (.returned (.int .i64 (y : Nat))) w4 from ⟨y, p4, rfl, HM4.out, HE4.out, Iy.out, (fun x e => by cases e), by omega, HF4.out⟩)
      go_wp2
      go_ret
      exact Hfin.out
    ·
      have Hc2 := hid (HW.out X w1 p1 HM1.out (by omega))
      go_wp2_with fail
      refine Hc2.out.mono ?_
      rintro e w2 ⟨a1, p2, rfl, hm2, he2, ha1, -, hl2, hf2⟩
      have HM2 := hid hm2; have HE2 := hid (HE1.out.trans he2); have HF2 := hid (HF1.out.trans hf2)
      have Ia1 := hid ha1
      clear hm2 he2 hf2 ha1 Hc2 HM1 HE1 HF1
      have Hc3 := hid (HW.out X w2 p2 HM2.out (by omega))
      go_wp2_with fail
      refine Hc3.out.mono ?_
      rintro e w3 ⟨a2, p3, rfl, hm3, he3, ha2, -, hl3, hf3⟩
      have HM3 := hid hm3; have HE3 := hid (HE2.out.trans he3); have HF3 := hid (HF2.out.trans hf3)
      replace Ia1 := hid (Ia1.out.ext he3)
      have Ia2 := hid ha2
      clear hm3 he3 hf3 ha2 Hc3 HM2 HE2 HF2
      have bq := below1 w3 (.cells #[.int .i64 (a1 : Nat), .int .i64 (a2 : Nat)] 3)
      have HQ := hid (QArg.new HM3.out.base HM3.out.xlt [((a1 : Nat) : Int), ((a2 : Nat) : Int)] #[.int .i64 (a1 : Nat), .int .i64 (a2 : Nat)] rfl 2 rfl (by simp))
      have HMa := hid (HM3.out.go bq); have HFa := hid (HF3.out.trans (MkFr.of_below bq))
      have hb4 := BMake_any HMa.out ⟨12, [(a1 : Nat), (a2 : Nat)], 0, 0⟩ (.slice (some ⟨w3.heap.size, 0, none⟩) 2 2) false none 0 0 HQ.out (zeroRaw _) (mk_two _ 12 a1 a2 2 (.inr ⟨rfl, by omega⟩) Ia1.out Ia2.out) (by omega) ⟨by simp, by show sz W 0 ≤ 8; rw [sz_zero]; omega⟩
      rw [show plSort _ ⟨12, [(a1 : Nat), (a2 : Nat)], 0, 0⟩ = 2 from rfl] at hb4
      have Hb4 := hid hb4
      clear hb4 HQ bq
      go_wp2_with fail
      refine Hb4.out.mono ?_
      rintro e w4 ⟨x, p4, rfl, hm4, he4, hx, -, hl4, hf4⟩
      have HM4 := hid hm4; have HE4 := hid (HE3.out.trans he4); have HF4 := hid (HFa.out.trans hf4)
      have Ix := hid hx
      clear hm4 he4 hf4 hx Hb4 HM3 HE3 HF3 HMa HFa
      have Hfin := hid (show MkRes W0 X b t vB bs us p n 2 none w (.returned (.int .i64 (x : Nat))) w4 from ⟨x, p4, rfl, HM4.out, HE4.out, Ix.out, (fun x e => by cases e), by omega, HF4.out⟩)
      go_wp2
      go_ret
      exact Hfin.out
    ·
      have Hc2 := hid (HW.out X w1 p1 HM1.out (by omega))
      go_wp2_with fail
      refine Hc2.out.mono ?_
      rintro e w2 ⟨a1, p2, rfl, hm2, he2, ha1, -, hl2, hf2⟩
      have HM2 := hid hm2; have HE2 := hid (HE1.out.trans he2); have HF2 := hid (HF1.out.trans hf2)
      have Ia1 := hid ha1
      clear hm2 he2 hf2 ha1 Hc2 HM1 HE1 HF1
      have c2 := HM2.out.cell2
      have Hn3 := hid (Num_apart HM2.out.tp)
      go_wp2_with fail
      refine Hn3.out.mono ?_
      rintro e w3 ⟨u, z, rfl, iz, hz, ht3, hA3⟩
      obtain ⟨pz, nz, cz, rfl, iz⟩ := iz.shape
      have HM3 := hid (HM2.out.next ht3 hA3); have HF3 := hid (HF2.out.trans (HM2.out.tp.fr hA3)); have HR := hid (iz.raw (by omega))
      have HE3 := HE2
      have hl3 := hl2
      obtain ⟨p3, hp3⟩ : ∃ q, q = p2 := ⟨_, rfl⟩
      subst hp3
      clear ht3 hA3 iz Hn3 HM2 HF2 c2 HE2
      have bq := below1 w3 (.cells #[.int .i64 (a1 : Nat)] 3)
      have HQ := hid (QArg.new HM3.out.base HM3.out.xlt [((a1 : Nat) : Int)] #[.int .i64 (a1 : Nat)] rfl 1 rfl (by simp))
      have HMa := hid (HM3.out.go bq); have HFa := hid (HF3.out.trans (MkFr.of_below bq))
      have hb4 := BMake_any HMa.out ⟨13, [(a1 : Nat)], z, 0⟩ (.slice (some ⟨w3.heap.size, 0, none⟩) 1 1) (decide (z < 0)) pz nz cz HQ.out (HR.out.below bq) (mk_mul _ a1 z Ia1.out) (by omega) ⟨by simp, by exact hz⟩
      rw [show plSort _ ⟨13, [(a1 : Nat)], z, 0⟩ = 2 from rfl] at hb4
      have Hb4 := hid hb4
      clear hb4 HQ bq
      go_wp2_with fail
      refine Hb4.out.mono ?_
      rintro e w4 ⟨x, p4, rfl, hm4, he4, hx, -, hl4, hf4⟩
      have HM4 := hid hm4; have HE4 := hid (HE3.out.trans he4); have HF4 := hid (HFa.out.trans hf4)
      have Ix := hid hx
      clear hm4 he4 hf4 hx Hb4 HM3 HE3 HF3 HMa HFa
      have Hfin := hid (show MkRes W0 X b t vB bs us p n 2 none w (.returned (.int .i64 (x : Nat))) w4 from ⟨x, p4, rfl, HM4.out, HE4.out, Ix.out, (fun x e => by cases e), by omega, HF4.out⟩)
      go_wp2
      go_ret
      exact Hfin.out
    ·
      have Hc2 := hid (HB.out X w1 p1 HM1.out (by omega))
      go_wp2_with fail
      refine Hc2.out.mono ?_
      rintro e w2 ⟨a0, p2, rfl, hm2, he2, ha0, -, hl2, hf2⟩
      have HM2 := hid hm2; have HE2 := hid (HE1.out.trans he2); have HF2 := hid (HF1.out.trans hf2)
      have Ia0 := hid ha0
      clear hm2 he2 hf2 ha0 Hc2 HM1 HE1 HF1
      have Hc3 := hid (HW.out X w2 p2 HM2.out (by omega))
      go_wp2_with fail
      refine Hc3.out.mono ?_
      rintro e w3 ⟨a1, p3, rfl, hm3, he3, ha1, -, hl3, hf3⟩
      have HM3 := hid hm3; have HE3 := hid (HE2.out.trans he3); have HF3 := hid (HF2.out.trans hf3)
      replace Ia0 := hid (Ia0.out.ext he3)
      have Ia1 := hid ha1
      clear hm3 he3 hf3 ha1 Hc3 HM2 HE2 HF2
      have Hc4 := hid (HW.out X w3 p3 HM3.out (by omega))
      go_wp2_with fail
      refine Hc4.out.mono ?_
      rintro e w4 ⟨a2, p4, rfl, hm4, he4, ha2, -, hl4, hf4⟩
      have HM4 := hid hm4; have HE4 := hid (HE3.out.trans he4); have HF4 := hid (HF3.out.trans hf4)
      replace Ia0 := hid (Ia0.out.ext he4)
      replace Ia1 := hid (Ia1.out.ext he4)
      have Ia2 := hid ha2
      clear hm4 he4 hf4 ha2 Hc4 HM3 HE3 HF3
      have bq := below1 w4 (.cells #[.int .i64 (a0 : Nat), .int .i64 (a1 : Nat), .int .i64 (a2 : Nat)] 3)
      have HQ := hid (QArg.new HM4.out.base HM4.out.xlt [((a0 : Nat) : Int), ((a1 : Nat) : Int), ((a2 : Nat) : Int)] #[.int .i64 (a0 : Nat), .int .i64 (a1 : Nat), .int .i64 (a2 : Nat)] rfl 3 rfl (by simp))
      have HMa := hid (HM4.out.go bq); have HFa := hid (HF4.out.trans (MkFr.of_below bq))
      have hb5 := BMake_any HMa.out ⟨9, [(a0 : Nat), (a1 : Nat), (a2 : Nat)], 0, 0⟩ (.slice (some ⟨w4.heap.size, 0, none⟩) 3 3) false none 0 0 HQ.out (zeroRaw _) (mk_ite _ a0 a1 a2 2 Ia0.out Ia1.out Ia2.out).1 (by omega) ⟨by simp, by show sz W 0 ≤ 8; rw [sz_zero]; omega⟩
      rw [(mk_ite _ a0 a1 a2 2 Ia0.out Ia1.out Ia2.out).2] at hb5
      have Hb5 := hid hb5
      clear hb5 HQ bq
      go_wp2_with fail
      refine Hb5.out.mono ?_
      rintro e w5 ⟨x, p5, rfl, hm5, he5, hx, -, hl5, hf5⟩
      have HM5 := hid hm5; have HE5 := hid (HE4.out.trans he5); have HF5 := hid (HFa.out.trans hf5)
      have Ix := hid hx
      clear hm5 he5 hf5 hx Hb5 HM4 HE4 HF4 HMa HFa
      have Hfin := hid (show MkRes W0 X b t vB bs us p n 2 none w (.returned (.int .i64 (x : Nat))) w5 from ⟨x, p5, rfl, HM5.out, HE5.out, Ix.out, (fun x e => by cases e), by omega, HF5.out⟩)
      go_wp2
      go_ret
      exact Hfin.out
    ·
      have Hc2 := hid (HZ.out X w1 p1 HM1.out (by omega))
      go_wp2_with fail
      refine Hc2.out.mono ?_
      rintro e w2 ⟨a1, p2, rfl, hm2, he2, ha1, -, hl2, hf2⟩
      have HM2 := hid hm2; have HE2 := hid (HE1.out.trans he2); have HF2 := hid (HF1.out.trans hf2)
      have Ia1 := hid ha1
      clear hm2 he2 hf2 ha1 Hc2 HM1 HE1 HF1
      have Ha3 := hid (app_any HM2.out m 1 2 deep a1 (by omega) (by constructor <;> omega) (fun _ => HW.out) (by omega) Ia1.out)
      go_wp2_with fail
      refine Ha3.out.mono ?_
      rintro e w3 ⟨y, p3, rfl, hm3, he3, hy, -, hl3, hf3⟩
      have HM3 := hid hm3; have HE3 := hid (HE2.out.trans he3); have HF3 := hid (HF2.out.trans hf3)
      have Iy := hid hy
      clear hm3 he3 hf3 hy Ha3
      have Hfin := hid (show MkRes W0 X b t vB bs us p n 2 none w (.returned (.int .i64 (y : Nat))) w3 from ⟨y, p3, rfl, HM3.out, HE3.out, Iy.out, (fun x e => by cases e), by omega, HF3.out⟩)
      go_wp2
      go_ret
      exact Hfin.out
    ·
      have c2 := HM1.out.cell2
      have Hn2 := hid (Num_apart HM1.out.tp)
      go_wp2_with fail
      refine Hn2.out.mono ?_
      rintro e w2 ⟨u, z, rfl, iz, hz, ht2, hA2⟩
      obtain ⟨pz, nz, cz, rfl, iz⟩ := iz.shape
      have HM2 := hid (HM1.out.next ht2 hA2); have HF2 := hid (HF1.out.trans (HM1.out.tp.fr hA2)); have HR := hid (iz.raw (by omega))
      have HE2 := HE1
      have hl2 := hl1
      obtain ⟨p2, hp2⟩ : ∃ q, q = p1 := ⟨_, rfl⟩
      subst hp2
      clear ht2 hA2 iz Hn2 HM1 HF1 c2 HE1
      have HMa := HM2; have HFa := HF2; have HQ := hid (QArg.nil W0 X w2)
      have hb3 := BMake_any HMa.out ⟨3, [], z, 0⟩ (.slice none 0 0) (decide (z < 0)) pz nz cz HQ.out HR.out (mk_num _ z) (by omega) ⟨by simp, by exact hz⟩
      rw [show plSort _ ⟨3, [], z, 0⟩ = 2 from rfl] at hb3
      have Hb3 := hid hb3
      clear hb3 HQ
      go_wp2_with fail
      refine Hb3.out.mono ?_
      rintro e w3 ⟨x, p3, rfl, hm3, he3, hx, -, hl3, hf3⟩
      have HM3 := hid hm3; have HE3 := hid (HE2.out.trans he3); have HF3 := hid (HFa.out.trans hf3)
      have Ix := hid hx
      clear hm3 he3 hf3 hx Hb3 HM2 HE2 HF2 HMa HFa
      have Ha4 := hid (app_any HM3.out 0 0 2 0 x (by omega) (by constructor <;> omega) (fun h => absurd h (by decide)) (by omega) Ix.out)
      go_wp2_with fail
      refine Ha4.out.mono ?_
      rintro e w4 ⟨y, p4, rfl, hm4, he4, hy, -, hl4, hf4⟩
      have HM4 := hid hm4; have HE4 := hid (HE3.out.trans he4); have HF4 := hid (HF3.out.trans hf4)
      have Iy := hid hy
      clear hm4 he4 hf4 hy Ha4
      have Hfin := hid (show MkRes W0 X b t vB bs us p n 2 none w (.returned (.int .i64 (y : Nat))) w4 from ⟨y, p4, rfl, HM4.out, HE4.out, Iy.out, (fun x e => by cases e), by omega, HF4.out⟩)
      go_wp2
      go_ret
      exact Hfin.out
    ·
      have c2 := HM1.out.cell2
      have Hn2 := hid (Num_apart HM1.out.tp)
      go_wp2_with fail
      refine Hn2.out.mono ?_
      rintro e w2 ⟨u, z, rfl, iz, hz, ht2, hA2⟩
      obtain ⟨pz, nz, cz, rfl, iz⟩ := iz.shape
      have HM2 := hid (HM1.out.next ht2 hA2); have HF2 := hid (HF1.out.trans (HM1.out.tp.fr hA2)); have HR := hid (iz.raw (by omega))
      have HE2 := HE1
      have hl2 := hl1
      obtain ⟨p2, hp2⟩ : ∃ q, q = p1 := ⟨_, rfl⟩
      subst hp2
      clear ht2 hA2 iz Hn2 HM1 HF1 c2 HE1
      have HMa := HM2; have HFa := HF2; have HQ := hid (QArg.nil W0 X w2)
      have hb3 := BMake_any HMa.out ⟨3, [], z, 0⟩ (.slice none 0 0) (decide (z < 0)) pz nz cz HQ.out HR.out (mk_num _ z) (by omega) ⟨by simp, by exact hz⟩
      rw [show plSort _ ⟨3, [], z, 0⟩ = 2 from rfl] at hb3
      have Hb3 := hid hb3
      clear hb3 HQ
      go_wp2_with fail
      refine Hb3.out.mono ?_
      rintro e w3 ⟨x, p3, rfl, hm3, he3, hx, -, hl3, hf3⟩
      have HM3 := hid hm3; have HE3 := hid (HE2.out.trans he3); have HF3 := hid (HFa.out.trans hf3)
      have Ix := hid hx
      clear hm3 he3 hf3 hx Hb3 HM2 HE2 HF2 HMa HFa
      have Ha4 := hid (app_any HM3.out 0 0 2 0 x (by omega) (by constructor <;> omega) (fun h => absurd h (by decide)) (by omega) Ix.out)
      go_wp2_with fail
      refine Ha4.out.mono ?_
      rintro e w4 ⟨y, p4, rfl, hm4, he4, hy, -, hl4, hf4⟩
      have HM4 := hid hm4; have HE4 := hid (HE3.out.trans he4); have HF4 := hid (HF3.out.trans hf4)
      have Iy := hid hy
      clear hm4 he4 hf4 hy Ha4
      have Hfin := hid (show MkRes W0 X b t vB bs us p n 2 none w (.returned (.int .i64 (y : Nat))) w4 from ⟨y, p4, rfl, HM4.out, HE4.out, Iy.out, (fun x e => by cases e), by omega, HF4.out⟩)
      go_wp2
      go_ret
      exact Hfin.out
end Go.Proofs.YthheafjilbeddaaDoor
/- A region that draws its order, with one operation that writes as elenchusmake's calls do (MkFr); what hangs on it needs last only while memory stays (made out of XWrite). -/
namespace Go.Proofs.YthheafjilbeddaaDoor
open Go.RowKit

structure TFact where
  P : Value → World → Prop
  st : ∀ v w w', P v w → Below w.heap.size w w' → P v w'
theorem wpAny_mk {P : Program} {ops : Array Oper} {Q : Exit → Act → World → Prop} {a0 : Act} {w0 : World} (n s : Nat) (hsize : ops.size = n + s) (ds : List Tmp) (f : Nat → TFact) (a : Nat) (J : Value → World → Prop) (hJ : ∀ v w w', J v w → Below w.heap.size w w' → J v w')
    (hd : edgesDown .any ops = true) (hsw : storesWait .any ops n = true) (hdn : ds.Nodup) (hlen : ds.length = n) (hds : dstsAre ops n ds = true) (han : a < n) (hst0 : ∀ j, j < n → reach .any ops 8 j a = false → j ≠ a → ∀ v w w', (f j).P v w → MkFr w w' → (f j).P v w')
    (hstep : ∀ i o, i < n → ops[i]? = some o → ∀ vs w, vs.length = n → MkFr w0 w → (i = a ∨ reach .any ops 8 a i = true → Below w0.heap.size w0 w) → (∀ e ∈ o.after, Region.binds .any e = true → (f e.on).P (vs.getD e.on undef) w) →
      ∀ K : Act → World → Prop, Shut (∀ v w', (f i).P v w' → (i ≠ a → Below w.heap.size w w') → (i = a → MkFr w w' ∧ J v w') → K ((putAll a0 ds vs).put o.dst v) w') →
        if Region.wanted o (yielded ops (putAll a0 ds vs).tmps) = true then Oper.wp P o (putAll a0 ds vs) w K Q else K ((putAll a0 ds vs).put o.dst undef) w)
    (hend : ∀ vs w, vs.length = n → MkFr w0 w → (∀ i, i < n → (f i).P (vs.getD i undef) w) → J (vs.getD a undef) w →
      wpAny P .any ops Q s ((List.replicate n true ++ List.replicate s false).toArray) (putAll a0 ds vs) w) :
    ∀ (c : Nat) (L : Array Bool) (vs : List Value) (w : World), (L.toList.take n).count false = c → L.size = n + s → (∀ j, n ≤ j → j < n + s → L.getD j true = false) → Closed .any ops L → vs.length = n → MkFr w0 w →
      (∀ i, i < n → L.getD i false = true → (f i).P (vs.getD i undef) w) → (L.getD a false = false → Below w0.heap.size w0 w) → (L.getD a false = true → J (vs.getD a undef) w) → wpAny P .any ops Q (c + s) L (putAll a0 ds vs) w := by
  intro c
  induction c with
  | zero =>
    intro L vs w hc hs hst hcl hvl hb hf hj0 hj1
    have hall : ∀ i, i < n → L.getD i false = true := fun i hi => by
      have hil : i < L.size := by omega
      cases hb : L[i] with
      | true => simp [Array.getD, hil, hb]
      | false =>
        exfalso
        have hmem : false ∈ L.toList.take n := by
          rw [List.mem_take_iff_getElem]
          exact ⟨i, by simp; omega, by simpa using hb⟩
        have := List.count_pos_iff.2 hmem
        omega
    have hL : L = (List.replicate n true ++ List.replicate s false).toArray := by
      apply Array.ext
      · simp [hs]
      · intro i hi hi2
        by_cases h : i < n
        · have := hall i h
          simp only [Array.getD, hi] at this
          simp [h]
          simpa using this
        · have := hst i (by omega) (by omega)
          simp only [Array.getD, hi] at this
          simp [List.getElem_append, h]
          simpa using this
    rw [Nat.zero_add, hL]
    exact hend vs w hvl hb (fun i hi => hf i hi (hall i hi)) (hj1 (hall a han))
  | succ c ih =>
    intro L vs w hc hs hst hcl hvl hb hf hj0 hj1
    have hnot : ¬ ∀ i, i < n → L.getD i false = true := fun hall => by
      have : (L.toList.take n).count false = 0 := by
        rw [List.count_eq_zero]
        intro hmem
        rw [List.mem_take_iff_getElem] at hmem
        obtain ⟨i, hi, hif⟩ := hmem
        have hi' : i < L.size := by simp at hi; omega
        have := hall i (by simp at hi; omega)
        have h2 : L.getD i false = L[i] := by simp [Array.getD, hi']
        rw [h2] at this
        rw [Array.getElem_toList] at hif
        rw [hif] at this
        cases this
      omega
    rw [show c + 1 + s = (c + s) + 1 by omega]
    refine ⟨fun hr => ?_, fun i hi => ?_⟩
    · exfalso
      apply hnot
      intro i hi
      have := all_listed hd (by rw [hs, hsize]) hr i (by omega)
      have hil : i < L.size := by omega
      simpa [Array.getD, hil] using this
    · obtain ⟨hun, o, ho, hall⟩ := mem_ready.1 hi
      have hio : i < ops.size := (Array.getElem?_eq_some_iff.1 ho).1
      have hil : i < L.size := by omega
      have hin : i < n := by
        rcases Nat.lt_or_ge i n with h | h
        · exact h
        · exfalso
          apply hnot
          intro j hj
          have h1 := List.all_eq_true.1 hsw i (by simpa using hio)
          simp only [Bool.or_eq_true, decide_eq_true_eq] at h1
          rcases h1 with h1 | h1
          · omega
          · exact reach_listed hcl 6 i o j ho hall (List.all_eq_true.1 h1 j (by simpa using hj))
      have hdst : o.dst = ds[i]? := by
        have h1 := List.all_eq_true.1 hds i (by simpa using hin)
        rw [ho] at h1
        simpa using h1
      have hdi : ds[i]? = some (ds[i]'(by omega)) := by simp
      have hia : i = a ∨ reach .any ops 8 a i = true → L.getD a false = false := fun h => by
        rcases h with rfl | h
        · simpa [Array.getD, hil] using hun
        · cases hla : L.getD a false with
          | false => rfl
          | true =>
            exfalso
            have hoa : ops[a]? = some (ops[a]'(by omega)) := by simp
            have := reach_listed hcl 8 a _ i hoa (fun e he hb => hcl a _ hoa hla e he hb) h
            have h2 : L.getD i false = L[i] := by simp [Array.getD, hil]
            rw [h2] at this
            have h3 : L.getD i true = L[i] := by simp [Array.getD, hil]
            rw [h3, this] at hun
            cases hun
      refine wpOp_step ho (fun K hK => hstep i o hin ho vs w hvl hb (fun h => hj0 (hia h)) (fun e he hbd => ?_) K (fun v w' hv hb' hp => ?_))
      · have hl := hall e he hbd
        have hlt : e.on < n := by
          rcases Nat.lt_or_ge e.on n with h | h
          · exact h
          · exfalso
            rcases Nat.lt_or_ge e.on (n + s) with h2 | h2
            · have := hst e.on h h2
              have hl2 : e.on < L.size := by omega
              simp only [Array.getD, hl2] at this hl
              simp at this hl
              rw [this] at hl; cases hl
            · have : ¬ e.on < L.size := by omega
              simp [Array.getD, this] at hl
        exact hf e.on hlt hl
      · apply hK
        rw [hdst, hdi, putAll_set hdn hdi (by omega)]
        have hset : ∀ j, i ≠ j → (L.setIfInBounds i true).getD j false = L.getD j false := fun j h => getD_set_ne false h
        have hap : MkFr w w' := by
          by_cases e : i = a
          · exact (hp e).1
          · exact MkFr.of_below (hb' e)
        refine ih (L.setIfInBounds i true) (vs.set i v) w' ?_ (by simpa using hs) ?_ ?_ (by simpa using hvl) (hb.trans hap) ?_ ?_ ?_
        · have hf' : (L.toList.take n)[i]'(by simp; omega) = false := by
            simp only [List.getElem_take]
            simpa [Array.getD, hil] using hun
          have := count_false_set (L.toList.take n) i (by simp; omega) hf'
          rw [Array.toList_setIfInBounds, ← List.take_set] at *
          omega
        · intro j hj hj2
          rw [getD_set_ne true (by omega)]
          exact hst j hj hj2
        · intro j o' hjo hjl e he hbd
          by_cases hji : i = j
          · subst hji
            rw [ho] at hjo
            cases hjo
            exact getD_set_true (hall e he hbd)
          · rw [hset j hji] at hjl
            exact getD_set_true (hcl j o' hjo hjl e he hbd)
        · intro j hj hjl
          by_cases hji : i = j
          · subst hji
            rw [getD_set_list_self (by omega)]
            exact hv
          · rw [hset j hji] at hjl
            rw [getD_set_list hji]
            by_cases e : i = a
            · cases hr : reach .any ops 8 j a with
              | false => exact hst0 j hj hr (fun h => hji (e.trans h.symm)) _ _ _ (hf j hj hjl) hap
              | true =>
                exfalso
                have hjo : ops[j]? = some (ops[j]'(by omega)) := by simp
                have h1 := reach_listed hcl 8 j _ a hjo (fun e' he' hb' => hcl j _ hjo hjl e' he' hb') hr
                rw [← e] at h1
                have h2 : L.getD i false = L[i] := by simp [Array.getD, hil]
                rw [h2] at h1
                have h3 : L.getD i true = L[i] := by simp [Array.getD, hil]
                rw [h3, h1] at hun
                cases hun
            · exact (f j).st _ _ _ (hf j hj hjl) (hb' e)
        · intro hla
          by_cases hji : i = a
          · subst hji
            exfalso
            have h2 : i < (L.setIfInBounds i true).size := by simpa using hil
            simp [Array.getD, hil] at hla
          · rw [hset a hji] at hla
            have := hb' hji
            exact (hj0 hla).trans (this.mono (hj0 hla).size)
        · intro hla
          by_cases hji : i = a
          · subst hji
            rw [getD_set_list_self (by omega)]
            exact (hp rfl).2
          · rw [hset a hji] at hla
            rw [getD_set_list hji]
            exact hJ _ _ _ (hj1 hla) (hb' hji)

theorem wp_region_mk {P : Program} {ops : Array Oper} {Q : Exit → Act → World → Prop} {id : Nat} {a0 : Act} {w0 : World} (n s : Nat) (ds : List Tmp) (vs0 : List Value) (f : Nat → TFact) (a : Nat) (J : Value → World → Prop) (hJ : ∀ v w w', J v w → Below w.heap.size w w' → J v w') (hm : P.follows .mixedOrders = true)
    (hsize : ops.size = n + s) (hd : edgesDown .any ops = true) (hsw : storesWait .any ops n = true) (hdn : ds.Nodup) (hlen : ds.length = n) (hds : dstsAre ops n ds = true) (hv0 : vs0.length = n) (han : a < n) (hst0 : ∀ j, j < n → reach .any ops 8 j a = false → j ≠ a → ∀ v w w', (f j).P v w → MkFr w w' → (f j).P v w')
    (he : a0 = putAll a0 ds vs0)
    (hstep : ∀ i o, i < n → ops[i]? = some o → ∀ vs w, vs.length = n → MkFr w0 w → (i = a ∨ reach .any ops 8 a i = true → Below w0.heap.size w0 w) → (∀ e ∈ o.after, Region.binds .any e = true → (f e.on).P (vs.getD e.on undef) w) →
      ∀ K : Act → World → Prop, Shut (∀ v w', (f i).P v w' → (i ≠ a → Below w.heap.size w w') → (i = a → MkFr w w' ∧ J v w') → K ((putAll a0 ds vs).put o.dst v) w') →
        if Region.wanted o (yielded ops (putAll a0 ds vs).tmps) = true then Oper.wp P o (putAll a0 ds vs) w K Q else K ((putAll a0 ds vs).put o.dst undef) w)
    (hend : ∀ vs w, vs.length = n → MkFr w0 w → (∀ i, i < n → (f i).P (vs.getD i undef) w) → J (vs.getD a undef) w →
      wpAny P .any ops Q s ((List.replicate n true ++ List.replicate s false).toArray) (putAll a0 ds vs) w) : (Code.region id ops true).wp P Q a0 w0 := by
  refine wp_region_any hm ?_
  have := wpAny_mk (a0 := a0) (w0 := w0) n s hsize ds f a J hJ hd hsw hdn hlen hds han hst0 hstep hend n (Array.replicate ops.size false) vs0 w0.drew
    (by rw [hsize]; simp [List.take_replicate, Nat.min_eq_left (Nat.le_add_right n s)]) (by simp [hsize]) (by intro j hj hj2; simp [Array.getD, hsize, hj2]) (by intro j o _ h; simp [Array.getD] at h) hv0 ((MkFr.refl _).drew)
    (by intro i _ h; simp [Array.getD] at h) (fun _ => (Below.refl _ _).drew) (by intro h; simp [Array.getD] at h)
  rw [← he, ← hsize] at this
  exact this

end Go.Proofs.YthheafjilbeddaaDoor
/- elenchusmake's Bool (made by gen_mkwhole.py). -/
namespace Go.Proofs.YthheafjilbeddaaDoor
open Go.RowKit Big Go.WideMaps

/-- facts of And's and Or's slots -/
def eqT (v0 : Value) : TFact := ⟨fun v _ => v = v0, fun _ _ _ h _ => h⟩
def rowT : TFact := ⟨fun v w => ∃ g, v = .slice (some ⟨g, 0, none⟩) 2 2 ∧ w.heap[g]? = some (.cells #[.int .i64 6, .int .i64 7] 3 (0, 0)), fun _ _ _ ⟨g, e, h⟩ hb => ⟨g, e, (hb.block g (lt_of_block h)).trans h⟩⟩
def ptrT (k : Nat) : TFact := ⟨fun v w => ∃ g, v = .pointer (some ⟨g, k, none⟩) ∧ w.heap[g]? = some (.cells #[.int .i64 6, .int .i64 7] 3 (0, 0)), fun _ _ _ ⟨g, e, h⟩ hb => ⟨g, e, (hb.block g (lt_of_block h)).trans h⟩⟩
def St (W0 : World) (X : Nat → Prop) (b t : Nat) (vB : Value) (bs : List Nat) (us : List Int) (p2 : Po) (m : Nat) (w2 : World) (a2 : Nat) (p3 : Po) (w : World) : Prop := MkAt W0 X w b t vB bs p3 us ∧ MkExt p2 p3 ∧ IsTm p3 a2 1 ∧ p3.terms.length ≤ p2.terms.length + m ∧ MkFr w2 w
theorem St.go {W0 : World} {X : Nat → Prop} {b t : Nat} {vB : Value} {bs : List Nat} {us : List Int} {p2 : Po} {m : Nat} {w2 : World} {a2 : Nat} {p3 : Po} {w w' : World} (h : St W0 X b t vB bs us p2 m w2 a2 p3 w) (hb : Below w.heap.size w w') : St W0 X b t vB bs us p2 m w2 a2 p3 w' :=
  ⟨h.1.go hb, h.2.1, h.2.2.1, h.2.2.2.1, h.2.2.2.2.trans (MkFr.of_below hb)⟩
def stT (W0 : World) (X : Nat → Prop) (b t : Nat) (vB : Value) (bs : List Nat) (us : List Int) (p2 : Po) (m : Nat) (w2 : World) : TFact := ⟨fun v w => ∃ (a2 : Nat) (p3 : Po), v = .int .i64 (a2 : Nat) ∧ St W0 X b t vB bs us p2 m w2 a2 p3 w, fun _ _ _ ⟨a2, p3, e, h⟩ hb => ⟨a2, p3, e, h.go hb⟩⟩
def argT (W0 : World) (X : Nat → Prop) (b t : Nat) (vB : Value) (bs : List Nat) (us : List Int) (p2 : Po) (m : Nat) (w2 : World) (a1 : Nat) : TFact := ⟨fun v w => ∃ (a2 : Nat) (p3 : Po) (g : Nat), v = .slice (some ⟨g, 0, none⟩) 2 2 ∧ QArg W0 X w (.slice (some ⟨g, 0, none⟩) 2 2) [(a1 : Nat), (a2 : Nat)] ∧ St W0 X b t vB bs us p2 m w2 a2 p3 w, fun _ _ _ ⟨a2, p3, g, e, hq, h⟩ hb => ⟨a2, p3, g, e, hq.later hb, h.go hb⟩⟩
def tmT (W0 : World) (X : Nat → Prop) (b t : Nat) (vB : Value) (bs : List Nat) (us : List Int) (p2 : Po) (m : Nat) (w2 : World) (a1 : Nat) (op : Int) : TFact := ⟨fun v w => ∃ (a2 : Nat) (p3 : Po) (g : Nat), v = .agg #[.int .i64 op, .slice (some ⟨g, 0, none⟩) 2 2, .bool false, .slice none 0 0, .int .i64 0] ∧ QArg W0 X w (.slice (some ⟨g, 0, none⟩) 2 2) [(a1 : Nat), (a2 : Nat)] ∧ St W0 X b t vB bs us p2 m w2 a2 p3 w, fun _ _ _ ⟨a2, p3, g, e, hq, h⟩ hb => ⟨a2, p3, g, e, hq.later hb, h.go hb⟩⟩
set_option maxRecDepth 100000 in
set_option maxHeartbeats 12800000 in
theorem Bool_step {W0 w : World} {X : Nat → Prop} {b t : Nat} {vB : Value} {bs : List Nat} {p : Po} {us : List Int} (h : MkAt W0 X w b t vB bs p us) (deep : Int) (m n : Nat) (hd0 : 0 ≤ deep) (hd1 : deep ≤ 100) (hn2 : 2 ≤ n) (hn3 : 1 ≤ deep → 3 * m + 3 ≤ n) (hn : p.terms.length + n ≤ 4096)
    (hW : 1 ≤ deep → ∀ X w p, MkAt W0 X w b t vB bs p us → p.terms.length + m ≤ 4096 → Calls Tryd.prog 46 #[.pointer (some ⟨b, 0, none⟩), .int .i64 (deep - 1)] w (MkRes W0 X b t vB bs us p m 2 none w))
    (hB : 1 ≤ deep → ∀ X w p, MkAt W0 X w b t vB bs p us → p.terms.length + m ≤ 4096 → Calls Tryd.prog 47 #[.pointer (some ⟨b, 0, none⟩), .int .i64 (deep - 1)] w (MkRes W0 X b t vB bs us p m 1 none w))
    (hZ : 1 ≤ deep → ∀ X w p, MkAt W0 X w b t vB bs p us → p.terms.length + 2 ≤ 4096 → Calls Tryd.prog 47 #[.pointer (some ⟨b, 0, none⟩), .int .i64 0] w (MkRes W0 X b t vB bs us p 2 1 none w)) :
    Calls Tryd.prog 47 #[.pointer (some ⟨b, 0, none⟩), .int .i64 deep] w (MkRes W0 X b t vB bs us p n 1 none w) := by
  have HM0 := hid h
  have c2 := h.cell2
  have Hx := hid (Next_in 13 h.tp (by decide))
  have HWr := hid hW; have HBr := hid hB; have HZr := hid hZ
  clear h hW hB hZ
  go_enter Tryd.func47, Tryd.ntmps47
  go_wp2_with fail
  refine Hx.out.mono ?_
  rintro e w1 ⟨q, rfl, hq, ht, hA⟩
  have hq1 : q < 13 := by omega
  obtain ⟨p1, hp1⟩ : ∃ q, q = p := ⟨_, rfl⟩
  have HM1 := hid (show MkAt W0 X w1 b t vB bs p1 us from hp1 ▸ HM0.out.next ht hA)
  have HF1 := hid (HM0.out.tp.fr hA)
  have HE1 := hid (show MkExt p p1 from hp1 ▸ MkExt.refl p)
  have hl1 : p1.terms.length ≤ p.terms.length := by rw [hp1]; exact Nat.le_refl _
  clear ht hA hq HM0 Hx c2 hp1
  cases hdp : decide (deep < 1)
  case true =>
    have hd2 : deep < 1 := of_decide_eq_true hdp
    obtain ⟨r, hr⟩ : ∃ r : Nat, (q : Int) % 3 = (r : Nat) := ⟨((q : Int) % 3).toNat, by omega⟩
    have hr3 : r < 3 := by omega
    go_upto_region 4 with fail
    generalize hqr : (q : Int) % 3 = qr at *
    subst hr
    clear hqr
    rcases (show r = 0 ∨ r = 1 ∨ r = 2 by omega) with rfl | rfl | rfl
    ·
      have c2 := HM1.out.cell2
      have bq := below1 w1 (.cells #[.int .i64 1, .int .i64 2] 3)
      have hq2 := heap_alloc_new w1 (.cells #[.int .i64 1, .int .i64 2] 3)
      have c2 := (HM1.out.go bq).cell2
      have Hn2 := hid (Next_in 2 (HM1.out.go bq).tp (by decide))
      have HMa := hid (HM1.out.go bq); have HFa := hid (HF1.out.trans (MkFr.of_below bq))
      go_wp2_with fail
      generalize hW : (w1.alloc (.cells #[.int .i64 1, .int .i64 2] 3)) = wa at *
      refine Hn2.out.mono ?_
      rintro e w2 ⟨r2, rfl, hr2, ht2, hA2⟩
      have hf2 := HMa.out.tp.fr hA2
      have q2 := two_cells (hf2.cells hq2 (by decide) (by decide) (by decide))
      obtain ⟨y0, y1, -, -⟩ := q2
      have HM2 := hid (HMa.out.next ht2 hA2); have HF2 := hid (HFa.out.trans hf2); have HE2 := HE1; have hl2 := hl1
      obtain ⟨p2, hp2⟩ : ∃ q, q = p1 := ⟨_, rfl⟩
      subst hp2
      have hr3 : r2 = 0 ∨ r2 = 1 := by omega
      clear hW hq2 hr2 ht2 hA2 hf2 bq c2 Hn2 HMa HFa HM1 HF1 HE1
      rcases hr3 with rfl | rfl
      ·
        have HMa := HM2; have HFa := HF2; have HQ := hid (QArg.nil W0 X w2)
        have hb3 := BMake_any HMa.out ⟨1, [], 0, 0⟩ (.slice none 0 0) false none 0 0 HQ.out (zeroRaw _) (mk_leaf _ 1 (by omega)) (by omega) ⟨by simp, by show sz W 0 ≤ 8; rw [sz_zero]; omega⟩
        rw [show plSort _ ⟨1, [], 0, 0⟩ = 1 from rfl] at hb3
        have Hb3 := hid hb3
        clear hb3 HQ
        go_wp2_with fail
        refine Hb3.out.mono ?_
        rintro e w3 ⟨x, p3, rfl, hm3, he3, hx, -, hl3, hf3⟩
        have HM3 := hid hm3; have HE3 := hid (HE2.out.trans he3); have HF3 := hid (HFa.out.trans hf3)
        have Ix := hid hx
        clear hm3 he3 hf3 hx Hb3 HM2 HE2 HF2 HMa HFa
        have Hfin := hid (show MkRes W0 X b t vB bs us p n 1 none w (.returned (.int .i64 (x : Nat))) w3 from ⟨x, p3, rfl, HM3.out, HE3.out, Ix.out, (fun x e => by cases e), by omega, HF3.out⟩)
        go_wp2
        go_ret
        exact Hfin.out
      ·
        have HMa := HM2; have HFa := HF2; have HQ := hid (QArg.nil W0 X w2)
        have hb3 := BMake_any HMa.out ⟨2, [], 0, 0⟩ (.slice none 0 0) false none 0 0 HQ.out (zeroRaw _) (mk_leaf _ 2 (by omega)) (by omega) ⟨by simp, by show sz W 0 ≤ 8; rw [sz_zero]; omega⟩
        rw [show plSort _ ⟨2, [], 0, 0⟩ = 1 from rfl] at hb3
        have Hb3 := hid hb3
        clear hb3 HQ
        go_wp2_with fail
        refine Hb3.out.mono ?_
        rintro e w3 ⟨x, p3, rfl, hm3, he3, hx, -, hl3, hf3⟩
        have HM3 := hid hm3; have HE3 := hid (HE2.out.trans he3); have HF3 := hid (HFa.out.trans hf3)
        have Ix := hid hx
        clear hm3 he3 hf3 hx Hb3 HM2 HE2 HF2 HMa HFa
        have Hfin := hid (show MkRes W0 X b t vB bs us p n 1 none w (.returned (.int .i64 (x : Nat))) w3 from ⟨x, p3, rfl, HM3.out, HE3.out, Ix.out, (fun x e => by cases e), by omega, HF3.out⟩)
        go_wp2
        go_ret
        exact Hfin.out
    ·
      have HMa := HM1; have HFa := HF1; have HQ := hid (QArg.nil W0 X w1)
      have hb2 := BMake_any HMa.out ⟨1, [], 0, 0⟩ (.slice none 0 0) false none 0 0 HQ.out (zeroRaw _) (mk_leaf _ 1 (by omega)) (by omega) ⟨by simp, by show sz W 0 ≤ 8; rw [sz_zero]; omega⟩
      rw [show plSort _ ⟨1, [], 0, 0⟩ = 1 from rfl] at hb2
      have Hb2 := hid hb2
      clear hb2 HQ
      go_wp2_with fail
      refine Hb2.out.mono ?_
      rintro e w2 ⟨x, p2, rfl, hm2, he2, hx, -, hl2, hf2⟩
      have HM2 := hid hm2; have HE2 := hid (HE1.out.trans he2); have HF2 := hid (HFa.out.trans hf2)
      have Ix := hid hx
      clear hm2 he2 hf2 hx Hb2 HM1 HE1 HF1 HMa HFa
      have Ha3 := hid (app_any HM2.out 0 0 1 0 x (by omega) (by constructor <;> omega) (fun h => absurd h (by decide)) (by omega) Ix.out)
      go_wp2_with fail
      refine Ha3.out.mono ?_
      rintro e w3 ⟨y, p3, rfl, hm3, he3, hy, -, hl3, hf3⟩
      have HM3 := hid hm3; have HE3 := hid (HE2.out.trans he3); have HF3 := hid (HF2.out.trans hf3)
      have Iy := hid hy
      clear hm3 he3 hf3 hy Ha3
      have Hfin := hid (show MkRes W0 X b t vB bs us p n 1 none w (.returned (.int .i64 (y : Nat))) w3 from ⟨y, p3, rfl, HM3.out, HE3.out, Iy.out, (fun x e => by cases e), by omega, HF3.out⟩)
      go_wp2
      go_ret
      exact Hfin.out
    ·
      have HMa := HM1; have HFa := HF1; have HQ := hid (QArg.nil W0 X w1)
      have hb2 := BMake_any HMa.out ⟨1, [], 0, 0⟩ (.slice none 0 0) false none 0 0 HQ.out (zeroRaw _) (mk_leaf _ 1 (by omega)) (by omega) ⟨by simp, by show sz W 0 ≤ 8; rw [sz_zero]; omega⟩
      rw [show plSort _ ⟨1, [], 0, 0⟩ = 1 from rfl] at hb2
      have Hb2 := hid hb2
      clear hb2 HQ
      go_wp2_with fail
      refine Hb2.out.mono ?_
      rintro e w2 ⟨x, p2, rfl, hm2, he2, hx, -, hl2, hf2⟩
      have HM2 := hid hm2; have HE2 := hid (HE1.out.trans he2); have HF2 := hid (HFa.out.trans hf2)
      have Ix := hid hx
      clear hm2 he2 hf2 hx Hb2 HM1 HE1 HF1 HMa HFa
      have Ha3 := hid (app_any HM2.out 0 0 1 0 x (by omega) (by constructor <;> omega) (fun h => absurd h (by decide)) (by omega) Ix.out)
      go_wp2_with fail
      refine Ha3.out.mono ?_
      rintro e w3 ⟨y, p3, rfl, hm3, he3, hy, -, hl3, hf3⟩
      have HM3 := hid hm3; have HE3 := hid (HE2.out.trans he3); have HF3 := hid (HF2.out.trans hf3)
      have Iy := hid hy
      clear hm3 he3 hf3 hy Ha3
      have Hfin := hid (show MkRes W0 X b t vB bs us p n 1 none w (.returned (.int .i64 (y : Nat))) w3 from ⟨y, p3, rfl, HM3.out, HE3.out, Iy.out, (fun x e => by cases e), by omega, HF3.out⟩)
      go_wp2
      go_ret
      exact Hfin.out
  case false =>
    have hd2 : 1 ≤ deep := by have := of_decide_eq_false hdp; omega
    have HW := hid (HWr.out hd2); have HB := hid (HBr.out hd2); have HZ := hid (HZr.out hd2)
    have hn4 := hn3 hd2
    clear HWr HBr HZr
    rcases (show q = 0 ∨ q = 1 ∨ q = 2 ∨ q = 3 ∨ q = 4 ∨ q = 5 ∨ q = 6 ∨ q = 7 ∨ q = 8 ∨ q = 9 ∨ q = 10 ∨ q = 11 ∨ q = 12 by omega) with rfl | rfl | rfl | rfl | rfl | rfl | rfl | rfl | rfl | rfl | rfl | rfl | rfl
    ·
      have c2 := HM1.out.cell2
      have bq := below1 w1 (.cells #[.int .i64 1, .int .i64 2] 3)
      have hq2 := heap_alloc_new w1 (.cells #[.int .i64 1, .int .i64 2] 3)
      have c2 := (HM1.out.go bq).cell2
      have Hn2 := hid (Next_in 2 (HM1.out.go bq).tp (by decide))
      have HMa := hid (HM1.out.go bq); have HFa := hid (HF1.out.trans (MkFr.of_below bq))
      go_wp2_with fail
      generalize hW : (w1.alloc (.cells #[.int .i64 1, .int .i64 2] 3)) = wa at *
      refine Hn2.out.mono ?_
      rintro e w2 ⟨r2, rfl, hr2, ht2, hA2⟩
      have hf2 := HMa.out.tp.fr hA2
      have q2 := two_cells (hf2.cells hq2 (by decide) (by decide) (by decide))
      obtain ⟨y0, y1, -, -⟩ := q2
      have HM2 := hid (HMa.out.next ht2 hA2); have HF2 := hid (HFa.out.trans hf2); have HE2 := HE1; have hl2 := hl1
      obtain ⟨p2, hp2⟩ : ∃ q, q = p1 := ⟨_, rfl⟩
      subst hp2
      have hr3 : r2 = 0 ∨ r2 = 1 := by omega
      clear hW hq2 hr2 ht2 hA2 hf2 bq c2 Hn2 HMa HFa HM1 HF1 HE1
      rcases hr3 with rfl | rfl
      ·
        have HMa := HM2; have HFa := HF2; have HQ := hid (QArg.nil W0 X w2)
        have hb3 := BMake_any HMa.out ⟨1, [], 0, 0⟩ (.slice none 0 0) false none 0 0 HQ.out (zeroRaw _) (mk_leaf _ 1 (by omega)) (by omega) ⟨by simp, by show sz W 0 ≤ 8; rw [sz_zero]; omega⟩
        rw [show plSort _ ⟨1, [], 0, 0⟩ = 1 from rfl] at hb3
        have Hb3 := hid hb3
        clear hb3 HQ
        go_wp2_with fail
        refine Hb3.out.mono ?_
        rintro e w3 ⟨x, p3, rfl, hm3, he3, hx, -, hl3, hf3⟩
        have HM3 := hid hm3; have HE3 := hid (HE2.out.trans he3); have HF3 := hid (HFa.out.trans hf3)
        have Ix := hid hx
        clear hm3 he3 hf3 hx Hb3 HM2 HE2 HF2 HMa HFa
        have Hfin := hid (show MkRes W0 X b t vB bs us p n 1 none w (.returned (.int .i64 (x : Nat))) w3 from ⟨x, p3, rfl, HM3.out, HE3.out, Ix.out, (fun x e => by cases e), by omega, HF3.out⟩)
        go_wp2
        go_ret
        exact Hfin.out
      ·
        have HMa := HM2; have HFa := HF2; have HQ := hid (QArg.nil W0 X w2)
        have hb3 := BMake_any HMa.out ⟨2, [], 0, 0⟩ (.slice none 0 0) false none 0 0 HQ.out (zeroRaw _) (mk_leaf _ 2 (by omega)) (by omega) ⟨by simp, by show sz W 0 ≤ 8; rw [sz_zero]; omega⟩
        rw [show plSort _ ⟨2, [], 0, 0⟩ = 1 from rfl] at hb3
        have Hb3 := hid hb3
        clear hb3 HQ
        go_wp2_with fail
        refine Hb3.out.mono ?_
        rintro e w3 ⟨x, p3, rfl, hm3, he3, hx, -, hl3, hf3⟩
        have HM3 := hid hm3; have HE3 := hid (HE2.out.trans he3); have HF3 := hid (HFa.out.trans hf3)
        have Ix := hid hx
        clear hm3 he3 hf3 hx Hb3 HM2 HE2 HF2 HMa HFa
        have Hfin := hid (show MkRes W0 X b t vB bs us p n 1 none w (.returned (.int .i64 (x : Nat))) w3 from ⟨x, p3, rfl, HM3.out, HE3.out, Ix.out, (fun x e => by cases e), by omega, HF3.out⟩)
        go_wp2
        go_ret
        exact Hfin.out
    ·
      have HMa := HM1; have HFa := HF1; have HQ := hid (QArg.nil W0 X w1)
      have hb2 := BMake_any HMa.out ⟨1, [], 0, 0⟩ (.slice none 0 0) false none 0 0 HQ.out (zeroRaw _) (mk_leaf _ 1 (by omega)) (by omega) ⟨by simp, by show sz W 0 ≤ 8; rw [sz_zero]; omega⟩
      rw [show plSort _ ⟨1, [], 0, 0⟩ = 1 from rfl] at hb2
      have Hb2 := hid hb2
      clear hb2 HQ
      go_wp2_with fail
      refine Hb2.out.mono ?_
      rintro e w2 ⟨x, p2, rfl, hm2, he2, hx, -, hl2, hf2⟩
      have HM2 := hid hm2; have HE2 := hid (HE1.out.trans he2); have HF2 := hid (HFa.out.trans hf2)
      have Ix := hid hx
      clear hm2 he2 hf2 hx Hb2 HM1 HE1 HF1 HMa HFa
      have Ha3 := hid (app_any HM2.out 0 0 1 0 x (by omega) (by constructor <;> omega) (fun h => absurd h (by decide)) (by omega) Ix.out)
      go_wp2_with fail
      refine Ha3.out.mono ?_
      rintro e w3 ⟨y, p3, rfl, hm3, he3, hy, -, hl3, hf3⟩
      have HM3 := hid hm3; have HE3 := hid (HE2.out.trans he3); have HF3 := hid (HF2.out.trans hf3)
      have Iy := hid hy
      clear hm3 he3 hf3 hy Ha3
      have Hfin := hid (show MkRes W0 X b t vB bs us p n 1 none w (.returned (.int .i64 (y : Nat))) w3 from ⟨y, p3, rfl, HM3.out, HE3.out, Iy.out, (fun x e => by cases e), by omega, HF3.out⟩)
      go_wp2
      go_ret
      exact Hfin.out
    ·
      have HMa := HM1; have HFa := HF1; have HQ := hid (QArg.nil W0 X w1)
      have hb2 := BMake_any HMa.out ⟨1, [], 0, 0⟩ (.slice none 0 0) false none 0 0 HQ.out (zeroRaw _) (mk_leaf _ 1 (by omega)) (by omega) ⟨by simp, by show sz W 0 ≤ 8; rw [sz_zero]; omega⟩
      rw [show plSort _ ⟨1, [], 0, 0⟩ = 1 from rfl] at hb2
      have Hb2 := hid hb2
      clear hb2 HQ
      go_wp2_with fail
      refine Hb2.out.mono ?_
      rintro e w2 ⟨x, p2, rfl, hm2, he2, hx, -, hl2, hf2⟩
      have HM2 := hid hm2; have HE2 := hid (HE1.out.trans he2); have HF2 := hid (HFa.out.trans hf2)
      have Ix := hid hx
      clear hm2 he2 hf2 hx Hb2 HM1 HE1 HF1 HMa HFa
      have Ha3 := hid (app_any HM2.out 0 0 1 0 x (by omega) (by constructor <;> omega) (fun h => absurd h (by decide)) (by omega) Ix.out)
      go_wp2_with fail
      refine Ha3.out.mono ?_
      rintro e w3 ⟨y, p3, rfl, hm3, he3, hy, -, hl3, hf3⟩
      have HM3 := hid hm3; have HE3 := hid (HE2.out.trans he3); have HF3 := hid (HF2.out.trans hf3)
      have Iy := hid hy
      clear hm3 he3 hf3 hy Ha3
      have Hfin := hid (show MkRes W0 X b t vB bs us p n 1 none w (.returned (.int .i64 (y : Nat))) w3 from ⟨y, p3, rfl, HM3.out, HE3.out, Iy.out, (fun x e => by cases e), by omega, HF3.out⟩)
      go_wp2
      go_ret
      exact Hfin.out
    ·
      have Hc2 := hid (HB.out X w1 p1 HM1.out (by omega))
      go_wp2_with fail
      refine Hc2.out.mono ?_
      rintro e w2 ⟨a1, p2, rfl, hm2, he2, ha1, -, hl2, hf2⟩
      have HM2 := hid hm2; have HE2 := hid (HE1.out.trans he2); have HF2 := hid (HF1.out.trans hf2)
      have Ia1 := hid ha1
      clear hm2 he2 hf2 ha1 Hc2 HM1 HE1 HF1
      have HB2 := hid HB.out
      clear HW HB HZ
      go_upto_region 8 with fail
      refine wp_region_mk (w0 := w2) 13 2 [29, 30, 31, 32, 33, 34, 35, 36, 37, 38, 39, 40, 41] [undef, undef, undef, undef, undef, undef, undef, undef, undef, undef, undef, undef, undef]
        (fun i => match i with | 0 => eqT (.pointer (some ⟨b, 0, none⟩)) | 1 => rowT | 2 => eqT (.int .i64 3) | 3 => eqT (.int .i64 0) | 4 => ptrT 0 | 5 => eqT (.int .i64 6) | 6 => eqT (.int .i64 (a1 : Nat)) | 7 => eqT (.pointer (some ⟨b, 0, none⟩)) | 8 => eqT (.int .i64 deep) | 9 => eqT (.int .i64 (deep - 1)) | 10 => stT W0 X b t vB bs us p2 m w2 | 11 => argT W0 X b t vB bs us p2 m w2 a1 | _ => tmT W0 X b t vB bs us p2 m w2 a1 6) 10 (fun _ _ => True) (fun _ _ _ _ _ => trivial) (by kernel_rfl) (by kernel_rfl) (by kernel_rfl) (by kernel_rfl) (by decide) rfl (by kernel_rfl) rfl (by decide) ?hst ?he1 ?_ ?_
      case he1 => simp only [putAll, Act.put, List.setIfInBounds_toArray, List.set_cons_zero, List.set_cons_succ]
      case hst =>
        intro j hj hr hne v wx wy h hf
        rcases j with _ | _ | _ | _ | _ | _ | _ | _ | _ | _ | _ | _ | _ | j
        · exact h
        · obtain ⟨g, e, h⟩ := h; exact ⟨g, e, hf.cells h (by decide) (by decide) (by decide)⟩
        · exact h
        · exact h
        · obtain ⟨g, e, h⟩ := h; exact ⟨g, e, hf.cells h (by decide) (by decide) (by decide)⟩
        · exact h
        · exact h
        · exact h
        · exact h
        · exact h
        · exact absurd rfl hne
        · exact absurd (show false = true from hr.symm.trans (by kernel_rfl)) (by decide)
        · exact absurd (show false = true from hr.symm.trans (by kernel_rfl)) (by decide)
        · omega
      · intro i o hi ho vs wx hvl hb hB hdep K hK
        have hvs := vlen13 hvl
        obtain ⟨s29, s30, s31, s32, s33, s34, s35, s36, s37, s38, s39, s40, s41, rfl⟩ := hvs
        clear hvl
        rcases i with _ | _ | _ | _ | _ | _ | _ | _ | _ | _ | _ | _ | _ | i
        all_goals (simp only [List.getElem?_toArray, List.getElem?_cons_zero, List.getElem?_cons_succ, Option.some.injEq] at ho)
        all_goals try (subst ho)
        all_goals try simp only [putAll, Act.put, List.setIfInBounds_toArray, List.set_cons_zero, List.set_cons_succ]
        · go_simp
          have hK' := hK.out
          simp only [putAll, Act.put, List.setIfInBounds_toArray, List.set_cons_zero, List.set_cons_succ] at hK'
          exact hK' _ _ rfl (fun _ => Below.refl _ _) (fun h => absurd h (by decide))
        · go_simp
          have hK' := hK.out
          simp only [putAll, Act.put, List.setIfInBounds_toArray, List.set_cons_zero, List.set_cons_succ] at hK'
          exact hK' _ _ ⟨_, rfl, heap_alloc_new wx _⟩ (fun _ => below1 _ _) (fun h => absurd h (by decide))
        · go_simp
          have hK' := hK.out
          simp only [putAll, Act.put, List.setIfInBounds_toArray, List.set_cons_zero, List.set_cons_succ] at hK'
          exact hK' _ _ rfl (fun _ => Below.refl _ _) (fun h => absurd h (by decide))
        · have e2 : s31 = _ := hdep ⟨2, .data⟩ (by simp) rfl
          have e2 := e2.symm
          subst e2
          go_simp
          have hK' := hK.out
          simp only [putAll, Act.put, List.setIfInBounds_toArray, List.set_cons_zero, List.set_cons_succ] at hK'
          exact hK' _ _ rfl (fun _ => Below.refl _ _) (fun h => absurd h (by decide))
        · have e1 : (rowT).P s30 wx := hdep ⟨1, .data⟩ (by simp) rfl
          have e3 : s32 = _ := hdep ⟨3, .data⟩ (by simp) rfl
          have e3 := e3.symm
          subst e3
          obtain ⟨g, e1', h67⟩ := e1
          have e1' := e1'.symm
          subst e1'
          go_simp
          have hK' := hK.out
          simp only [putAll, Act.put, List.setIfInBounds_toArray, List.set_cons_zero, List.set_cons_succ] at hK'
          exact hK' _ _ ⟨g, rfl, h67⟩ (fun _ => Below.refl _ _) (fun h => absurd h (by decide))
        · have e4 : (ptrT 0).P s33 wx := hdep ⟨4, .data⟩ (by simp) rfl
          obtain ⟨g, e4', h67⟩ := e4
          have e4' := e4'.symm
          subst e4'
          have q2 := two_cells h67
          obtain ⟨y0, y1, -, -⟩ := q2
          go_simp
          have hK' := hK.out
          simp only [putAll, Act.put, List.setIfInBounds_toArray, List.set_cons_zero, List.set_cons_succ] at hK'
          exact hK' _ _ rfl (fun _ => Below.refl _ _) (fun h => absurd h (by decide))
        · go_simp
          have hK' := hK.out
          simp only [putAll, Act.put, List.setIfInBounds_toArray, List.set_cons_zero, List.set_cons_succ] at hK'
          exact hK' _ _ rfl (fun _ => Below.refl _ _) (fun h => absurd h (by decide))
        · go_simp
          have hK' := hK.out
          simp only [putAll, Act.put, List.setIfInBounds_toArray, List.set_cons_zero, List.set_cons_succ] at hK'
          exact hK' _ _ rfl (fun _ => Below.refl _ _) (fun h => absurd h (by decide))
        · go_simp
          have hK' := hK.out
          simp only [putAll, Act.put, List.setIfInBounds_toArray, List.set_cons_zero, List.set_cons_succ] at hK'
          exact hK' _ _ rfl (fun _ => Below.refl _ _) (fun h => absurd h (by decide))
        · have e8 : s37 = _ := hdep ⟨8, .data⟩ (by simp) rfl
          have e8 := e8.symm
          subst e8
          go_simp
          have hK' := hK.out
          simp only [putAll, Act.put, List.setIfInBounds_toArray, List.set_cons_zero, List.set_cons_succ] at hK'
          exact hK' _ _ (show Value.int .i64 (IntKind.i64.wrap (deep - 1)) = .int .i64 (deep - 1) by rw [IntWalk.i64_in _ (by omega)]) (fun _ => Below.refl _ _) (fun h => absurd h (by decide))
        · have e7 : s36 = _ := hdep ⟨7, .data⟩ (by simp) rfl
          have e7 := e7.symm
          subst e7
          have e9 : s38 = _ := hdep ⟨9, .data⟩ (by simp) rfl
          have e9 := e9.symm
          subst e9
          have hb0 : Below w2.heap.size w2 wx := hB (.inl rfl)
          go_simp
          refine (HB2.out X wx p2 (HM2.out.go hb0) (by omega)).mono ?_
          rintro e wy ⟨a2, p3, rfl, hm3, he3, h3, -, hl3, hf3⟩
          go_wp2_with fail
          have hK' := hK.out
          simp only [putAll, Act.put, List.setIfInBounds_toArray, List.set_cons_zero, List.set_cons_succ] at hK'
          exact hK' _ _ ⟨a2, p3, rfl, hm3, he3, h3, hl3, (MkFr.of_below hb0).trans hf3⟩ (fun h => absurd rfl h) (fun _ => ⟨hf3, trivial⟩)
        · have e6 : s35 = _ := hdep ⟨6, .data⟩ (by simp) rfl
          have e6 := e6.symm
          subst e6
          have e10 : (stT W0 X b t vB bs us p2 m w2).P s39 wx := hdep ⟨10, .data⟩ (by simp) rfl
          obtain ⟨a2, p3, e10', st⟩ := e10
          have e10' := e10'.symm
          subst e10'
          go_simp
          have hK' := hK.out
          simp only [putAll, Act.put, List.setIfInBounds_toArray, List.set_cons_zero, List.set_cons_succ] at hK'
          exact hK' _ _ ⟨a2, p3, _, rfl, QArg.new st.1.base st.1.xlt [((a1 : Nat) : Int), ((a2 : Nat) : Int)] #[.int .i64 (a1 : Nat), .int .i64 (a2 : Nat)] rfl 2 rfl (by simp), St.go st (below1 _ _)⟩ (fun _ => below1 _ _) (fun h => absurd h (by decide))
        · have e5 : s34 = _ := hdep ⟨5, .data⟩ (by simp) rfl
          have e5 := e5.symm
          subst e5
          have e11 : (argT W0 X b t vB bs us p2 m w2 a1).P s40 wx := hdep ⟨11, .data⟩ (by simp) rfl
          obtain ⟨a2, p3, g, e11', hq, st⟩ := e11
          have e11' := e11'.symm
          subst e11'
          go_simp
          have hK' := hK.out
          simp only [putAll, Act.put, List.setIfInBounds_toArray, List.set_cons_zero, List.set_cons_succ] at hK'
          exact hK' _ _ ⟨a2, p3, g, rfl, hq, st⟩ (fun _ => Below.refl _ _) (fun h => absurd h (by decide))
        · omega
      · intro vs wx hvl hb hf hJw
        have hvs := vlen13 hvl
        obtain ⟨s29, s30, s31, s32, s33, s34, s35, s36, s37, s38, s39, s40, s41, rfl⟩ := hvs
        have e0 : s29 = .pointer (some ⟨b, 0, none⟩) := hf 0 (by decide)
        subst e0
        have e12 : (tmT W0 X b t vB bs us p2 m w2 a1 6).P s41 wx := hf 12 (by decide)
        obtain ⟨a2, p3, g, e12', hq, st⟩ := e12
        subst e12'
        clear hf hvl hJw
        obtain ⟨hm3, he3, h3, hl3, hf3⟩ := st
        have hb := BMake_any hm3 ⟨6, [(a1 : Nat), (a2 : Nat)], 0, 0⟩ (.slice (some ⟨g, 0, none⟩) 2 2) false none 0 0 hq (zeroRaw _) (mk_two _ 6 a1 a2 1 (.inl ⟨rfl, by omega⟩) (Ia1.out.ext he3) h3) (by omega) ⟨by simp, by show sz W 0 ≤ 8; rw [sz_zero]; omega⟩
        rw [show plSort p3 ⟨6, [(a1 : Nat), (a2 : Nat)], 0, 0⟩ = 1 from rfl] at hb
        have Hb := hid hb
        have HE3 := hid (HE2.out.trans he3); have HF3 := hid (HF2.out.trans hf3)
        clear hb he3 hf3 h3 hq hm3
        refine wpAny_one (i := 13) (by kernel_rfl) rfl ?_
        intro K hK
        simp only [putAll, Act.put, List.setIfInBounds_toArray, List.set_cons_zero, List.set_cons_succ]
        go_simp
        refine Hb.out.mono ?_
        rintro e w5 ⟨x, p5, rfl, hm5, he5, hx5, -, hl5, hf5⟩
        have Hfin := hid (show MkRes W0 X b t vB bs us p n 1 none w (.returned (.int .i64 (x : Nat))) w5 from ⟨x, p5, rfl, hm5, HE3.out.trans he5, hx5, (fun x e => by cases e), by omega, HF3.out.trans hf5⟩)
        clear hm5 he5 hx5 hf5
        go_wp2_with fail
        have hK' := hK.out
        apply hK'
        clear hK hK'
        refine wpAny_one (i := 14) (by kernel_rfl) rfl ?_
        intro K hK
        have hK' := hK.out
        go_simp
        apply hK'
        clear hK hK'
        refine wpAny_done (by kernel_rfl) ?_ _
        go_wp2
        go_ret
        exact Hfin.out
    ·
      have Hc2 := hid (HB.out X w1 p1 HM1.out (by omega))
      go_wp2_with fail
      refine Hc2.out.mono ?_
      rintro e w2 ⟨a1, p2, rfl, hm2, he2, ha1, -, hl2, hf2⟩
      have HM2 := hid hm2; have HE2 := hid (HE1.out.trans he2); have HF2 := hid (HF1.out.trans hf2)
      have Ia1 := hid ha1
      clear hm2 he2 hf2 ha1 Hc2 HM1 HE1 HF1
      have HB2 := hid HB.out
      clear HW HB HZ
      go_upto_region 8 with fail
      refine wp_region_mk (w0 := w2) 13 2 [29, 30, 31, 32, 33, 34, 35, 36, 37, 38, 39, 40, 41] [undef, undef, undef, undef, undef, undef, undef, undef, undef, undef, undef, undef, undef]
        (fun i => match i with | 0 => eqT (.pointer (some ⟨b, 0, none⟩)) | 1 => rowT | 2 => eqT (.int .i64 4) | 3 => eqT (.int .i64 1) | 4 => ptrT 1 | 5 => eqT (.int .i64 7) | 6 => eqT (.int .i64 (a1 : Nat)) | 7 => eqT (.pointer (some ⟨b, 0, none⟩)) | 8 => eqT (.int .i64 deep) | 9 => eqT (.int .i64 (deep - 1)) | 10 => stT W0 X b t vB bs us p2 m w2 | 11 => argT W0 X b t vB bs us p2 m w2 a1 | _ => tmT W0 X b t vB bs us p2 m w2 a1 7) 10 (fun _ _ => True) (fun _ _ _ _ _ => trivial) (by kernel_rfl) (by kernel_rfl) (by kernel_rfl) (by kernel_rfl) (by decide) rfl (by kernel_rfl) rfl (by decide) ?hst ?he1 ?_ ?_
      case he1 => simp only [putAll, Act.put, List.setIfInBounds_toArray, List.set_cons_zero, List.set_cons_succ]
      case hst =>
        intro j hj hr hne v wx wy h hf
        rcases j with _ | _ | _ | _ | _ | _ | _ | _ | _ | _ | _ | _ | _ | j
        · exact h
        · obtain ⟨g, e, h⟩ := h; exact ⟨g, e, hf.cells h (by decide) (by decide) (by decide)⟩
        · exact h
        · exact h
        · obtain ⟨g, e, h⟩ := h; exact ⟨g, e, hf.cells h (by decide) (by decide) (by decide)⟩
        · exact h
        · exact h
        · exact h
        · exact h
        · exact h
        · exact absurd rfl hne
        · exact absurd (show false = true from hr.symm.trans (by kernel_rfl)) (by decide)
        · exact absurd (show false = true from hr.symm.trans (by kernel_rfl)) (by decide)
        · omega
      · intro i o hi ho vs wx hvl hb hB hdep K hK
        have hvs := vlen13 hvl
        obtain ⟨s29, s30, s31, s32, s33, s34, s35, s36, s37, s38, s39, s40, s41, rfl⟩ := hvs
        clear hvl
        rcases i with _ | _ | _ | _ | _ | _ | _ | _ | _ | _ | _ | _ | _ | i
        all_goals (simp only [List.getElem?_toArray, List.getElem?_cons_zero, List.getElem?_cons_succ, Option.some.injEq] at ho)
        all_goals try (subst ho)
        all_goals try simp only [putAll, Act.put, List.setIfInBounds_toArray, List.set_cons_zero, List.set_cons_succ]
        · go_simp
          have hK' := hK.out
          simp only [putAll, Act.put, List.setIfInBounds_toArray, List.set_cons_zero, List.set_cons_succ] at hK'
          exact hK' _ _ rfl (fun _ => Below.refl _ _) (fun h => absurd h (by decide))
        · go_simp
          have hK' := hK.out
          simp only [putAll, Act.put, List.setIfInBounds_toArray, List.set_cons_zero, List.set_cons_succ] at hK'
          exact hK' _ _ ⟨_, rfl, heap_alloc_new wx _⟩ (fun _ => below1 _ _) (fun h => absurd h (by decide))
        · go_simp
          have hK' := hK.out
          simp only [putAll, Act.put, List.setIfInBounds_toArray, List.set_cons_zero, List.set_cons_succ] at hK'
          exact hK' _ _ rfl (fun _ => Below.refl _ _) (fun h => absurd h (by decide))
        · have e2 : s31 = _ := hdep ⟨2, .data⟩ (by simp) rfl
          have e2 := e2.symm
          subst e2
          go_simp
          have hK' := hK.out
          simp only [putAll, Act.put, List.setIfInBounds_toArray, List.set_cons_zero, List.set_cons_succ] at hK'
          exact hK' _ _ rfl (fun _ => Below.refl _ _) (fun h => absurd h (by decide))
        · have e1 : (rowT).P s30 wx := hdep ⟨1, .data⟩ (by simp) rfl
          have e3 : s32 = _ := hdep ⟨3, .data⟩ (by simp) rfl
          have e3 := e3.symm
          subst e3
          obtain ⟨g, e1', h67⟩ := e1
          have e1' := e1'.symm
          subst e1'
          go_simp
          have hK' := hK.out
          simp only [putAll, Act.put, List.setIfInBounds_toArray, List.set_cons_zero, List.set_cons_succ] at hK'
          exact hK' _ _ ⟨g, rfl, h67⟩ (fun _ => Below.refl _ _) (fun h => absurd h (by decide))
        · have e4 : (ptrT 1).P s33 wx := hdep ⟨4, .data⟩ (by simp) rfl
          obtain ⟨g, e4', h67⟩ := e4
          have e4' := e4'.symm
          subst e4'
          have q2 := two_cells h67
          obtain ⟨y0, y1, -, -⟩ := q2
          go_simp
          have hK' := hK.out
          simp only [putAll, Act.put, List.setIfInBounds_toArray, List.set_cons_zero, List.set_cons_succ] at hK'
          exact hK' _ _ rfl (fun _ => Below.refl _ _) (fun h => absurd h (by decide))
        · go_simp
          have hK' := hK.out
          simp only [putAll, Act.put, List.setIfInBounds_toArray, List.set_cons_zero, List.set_cons_succ] at hK'
          exact hK' _ _ rfl (fun _ => Below.refl _ _) (fun h => absurd h (by decide))
        · go_simp
          have hK' := hK.out
          simp only [putAll, Act.put, List.setIfInBounds_toArray, List.set_cons_zero, List.set_cons_succ] at hK'
          exact hK' _ _ rfl (fun _ => Below.refl _ _) (fun h => absurd h (by decide))
        · go_simp
          have hK' := hK.out
          simp only [putAll, Act.put, List.setIfInBounds_toArray, List.set_cons_zero, List.set_cons_succ] at hK'
          exact hK' _ _ rfl (fun _ => Below.refl _ _) (fun h => absurd h (by decide))
        · have e8 : s37 = _ := hdep ⟨8, .data⟩ (by simp) rfl
          have e8 := e8.symm
          subst e8
          go_simp
          have hK' := hK.out
          simp only [putAll, Act.put, List.setIfInBounds_toArray, List.set_cons_zero, List.set_cons_succ] at hK'
          exact hK' _ _ (show Value.int .i64 (IntKind.i64.wrap (deep - 1)) = .int .i64 (deep - 1) by rw [IntWalk.i64_in _ (by omega)]) (fun _ => Below.refl _ _) (fun h => absurd h (by decide))
        · have e7 : s36 = _ := hdep ⟨7, .data⟩ (by simp) rfl
          have e7 := e7.symm
          subst e7
          have e9 : s38 = _ := hdep ⟨9, .data⟩ (by simp) rfl
          have e9 := e9.symm
          subst e9
          have hb0 : Below w2.heap.size w2 wx := hB (.inl rfl)
          go_simp
          refine (HB2.out X wx p2 (HM2.out.go hb0) (by omega)).mono ?_
          rintro e wy ⟨a2, p3, rfl, hm3, he3, h3, -, hl3, hf3⟩
          go_wp2_with fail
          have hK' := hK.out
          simp only [putAll, Act.put, List.setIfInBounds_toArray, List.set_cons_zero, List.set_cons_succ] at hK'
          exact hK' _ _ ⟨a2, p3, rfl, hm3, he3, h3, hl3, (MkFr.of_below hb0).trans hf3⟩ (fun h => absurd rfl h) (fun _ => ⟨hf3, trivial⟩)
        · have e6 : s35 = _ := hdep ⟨6, .data⟩ (by simp) rfl
          have e6 := e6.symm
          subst e6
          have e10 : (stT W0 X b t vB bs us p2 m w2).P s39 wx := hdep ⟨10, .data⟩ (by simp) rfl
          obtain ⟨a2, p3, e10', st⟩ := e10
          have e10' := e10'.symm
          subst e10'
          go_simp
          have hK' := hK.out
          simp only [putAll, Act.put, List.setIfInBounds_toArray, List.set_cons_zero, List.set_cons_succ] at hK'
          exact hK' _ _ ⟨a2, p3, _, rfl, QArg.new st.1.base st.1.xlt [((a1 : Nat) : Int), ((a2 : Nat) : Int)] #[.int .i64 (a1 : Nat), .int .i64 (a2 : Nat)] rfl 2 rfl (by simp), St.go st (below1 _ _)⟩ (fun _ => below1 _ _) (fun h => absurd h (by decide))
        · have e5 : s34 = _ := hdep ⟨5, .data⟩ (by simp) rfl
          have e5 := e5.symm
          subst e5
          have e11 : (argT W0 X b t vB bs us p2 m w2 a1).P s40 wx := hdep ⟨11, .data⟩ (by simp) rfl
          obtain ⟨a2, p3, g, e11', hq, st⟩ := e11
          have e11' := e11'.symm
          subst e11'
          go_simp
          have hK' := hK.out
          simp only [putAll, Act.put, List.setIfInBounds_toArray, List.set_cons_zero, List.set_cons_succ] at hK'
          exact hK' _ _ ⟨a2, p3, g, rfl, hq, st⟩ (fun _ => Below.refl _ _) (fun h => absurd h (by decide))
        · omega
      · intro vs wx hvl hb hf hJw
        have hvs := vlen13 hvl
        obtain ⟨s29, s30, s31, s32, s33, s34, s35, s36, s37, s38, s39, s40, s41, rfl⟩ := hvs
        have e0 : s29 = .pointer (some ⟨b, 0, none⟩) := hf 0 (by decide)
        subst e0
        have e12 : (tmT W0 X b t vB bs us p2 m w2 a1 7).P s41 wx := hf 12 (by decide)
        obtain ⟨a2, p3, g, e12', hq, st⟩ := e12
        subst e12'
        clear hf hvl hJw
        obtain ⟨hm3, he3, h3, hl3, hf3⟩ := st
        have hb := BMake_any hm3 ⟨7, [(a1 : Nat), (a2 : Nat)], 0, 0⟩ (.slice (some ⟨g, 0, none⟩) 2 2) false none 0 0 hq (zeroRaw _) (mk_two _ 7 a1 a2 1 (.inl ⟨rfl, by omega⟩) (Ia1.out.ext he3) h3) (by omega) ⟨by simp, by show sz W 0 ≤ 8; rw [sz_zero]; omega⟩
        rw [show plSort p3 ⟨7, [(a1 : Nat), (a2 : Nat)], 0, 0⟩ = 1 from rfl] at hb
        have Hb := hid hb
        have HE3 := hid (HE2.out.trans he3); have HF3 := hid (HF2.out.trans hf3)
        clear hb he3 hf3 h3 hq hm3
        refine wpAny_one (i := 13) (by kernel_rfl) rfl ?_
        intro K hK
        simp only [putAll, Act.put, List.setIfInBounds_toArray, List.set_cons_zero, List.set_cons_succ]
        go_simp
        refine Hb.out.mono ?_
        rintro e w5 ⟨x, p5, rfl, hm5, he5, hx5, -, hl5, hf5⟩
        have Hfin := hid (show MkRes W0 X b t vB bs us p n 1 none w (.returned (.int .i64 (x : Nat))) w5 from ⟨x, p5, rfl, hm5, HE3.out.trans he5, hx5, (fun x e => by cases e), by omega, HF3.out.trans hf5⟩)
        clear hm5 he5 hx5 hf5
        go_wp2_with fail
        have hK' := hK.out
        apply hK'
        clear hK hK'
        refine wpAny_one (i := 14) (by kernel_rfl) rfl ?_
        intro K hK
        have hK' := hK.out
        go_simp
        apply hK'
        clear hK hK'
        refine wpAny_done (by kernel_rfl) ?_ _
        go_wp2
        go_ret
        exact Hfin.out
    ·
      have Hc2 := hid (HB.out X w1 p1 HM1.out (by omega))
      go_wp2_with fail
      refine Hc2.out.mono ?_
      rintro e w2 ⟨a1, p2, rfl, hm2, he2, ha1, -, hl2, hf2⟩
      have HM2 := hid hm2; have HE2 := hid (HE1.out.trans he2); have HF2 := hid (HF1.out.trans hf2)
      have Ia1 := hid ha1
      clear hm2 he2 hf2 ha1 Hc2 HM1 HE1 HF1
      have bq := below1 w2 (.cells #[.int .i64 (a1 : Nat)] 3)
      have HQ := hid (QArg.new HM2.out.base HM2.out.xlt [((a1 : Nat) : Int)] #[.int .i64 (a1 : Nat)] rfl 1 rfl (by simp))
      have HMa := hid (HM2.out.go bq); have HFa := hid (HF2.out.trans (MkFr.of_below bq))
      have hb3 := BMake_any HMa.out ⟨5, [(a1 : Nat)], 0, 0⟩ (.slice (some ⟨w2.heap.size, 0, none⟩) 1 1) false none 0 0 HQ.out (zeroRaw _) (mk_one _ a1 Ia1.out) (by omega) ⟨by simp, by show sz W 0 ≤ 8; rw [sz_zero]; omega⟩
      rw [show plSort _ ⟨5, [(a1 : Nat)], 0, 0⟩ = 1 from rfl] at hb3
      have Hb3 := hid hb3
      clear hb3 HQ bq
      go_wp2_with fail
      refine Hb3.out.mono ?_
      rintro e w3 ⟨x, p3, rfl, hm3, he3, hx, -, hl3, hf3⟩
      have HM3 := hid hm3; have HE3 := hid (HE2.out.trans he3); have HF3 := hid (HFa.out.trans hf3)
      have Ix := hid hx
      clear hm3 he3 hf3 hx Hb3 HM2 HE2 HF2 HMa HFa
      have Hfin := hid (show MkRes W0 X b t vB bs us p n 1 none w (.returned (.int .i64 (x : Nat))) w3 from ⟨x, p3, rfl, HM3.out, HE3.out, Ix.out, (fun x e => by cases e), by omega, HF3.out⟩)
      go_wp2
      go_ret
      exact Hfin.out
    ·
      have Hc2 := hid (HB.out X w1 p1 HM1.out (by omega))
      go_wp2_with fail
      refine Hc2.out.mono ?_
      rintro e w2 ⟨a1, p2, rfl, hm2, he2, ha1, -, hl2, hf2⟩
      have HM2 := hid hm2; have HE2 := hid (HE1.out.trans he2); have HF2 := hid (HF1.out.trans hf2)
      have Ia1 := hid ha1
      clear hm2 he2 hf2 ha1 Hc2 HM1 HE1 HF1
      have Hc3 := hid (HB.out X w2 p2 HM2.out (by omega))
      go_wp2_with fail
      refine Hc3.out.mono ?_
      rintro e w3 ⟨a2, p3, rfl, hm3, he3, ha2, -, hl3, hf3⟩
      have HM3 := hid hm3; have HE3 := hid (HE2.out.trans he3); have HF3 := hid (HF2.out.trans hf3)
      replace Ia1 := hid (Ia1.out.ext he3)
      have Ia2 := hid ha2
      clear hm3 he3 hf3 ha2 Hc3 HM2 HE2 HF2
      have bq := below1 w3 (.cells #[.int .i64 (a1 : Nat), .int .i64 (a2 : Nat)] 3)
      have HQ := hid (QArg.new HM3.out.base HM3.out.xlt [((a1 : Nat) : Int), ((a2 : Nat) : Int)] #[.int .i64 (a1 : Nat), .int .i64 (a2 : Nat)] rfl 2 rfl (by simp))
      have HMa := hid (HM3.out.go bq); have HFa := hid (HF3.out.trans (MkFr.of_below bq))
      have hb4 := BMake_any HMa.out ⟨8, [(a1 : Nat), (a2 : Nat)], 0, 0⟩ (.slice (some ⟨w3.heap.size, 0, none⟩) 2 2) false none 0 0 HQ.out (zeroRaw _) (mk_two _ 8 a1 a2 1 (.inl ⟨rfl, by omega⟩) Ia1.out Ia2.out) (by omega) ⟨by simp, by show sz W 0 ≤ 8; rw [sz_zero]; omega⟩
      rw [show plSort _ ⟨8, [(a1 : Nat), (a2 : Nat)], 0, 0⟩ = 1 from rfl] at hb4
      have Hb4 := hid hb4
      clear hb4 HQ bq
      go_wp2_with fail
      refine Hb4.out.mono ?_
      rintro e w4 ⟨x, p4, rfl, hm4, he4, hx, -, hl4, hf4⟩
      have HM4 := hid hm4; have HE4 := hid (HE3.out.trans he4); have HF4 := hid (HFa.out.trans hf4)
      have Ix := hid hx
      clear hm4 he4 hf4 hx Hb4 HM3 HE3 HF3 HMa HFa
      have Hfin := hid (show MkRes W0 X b t vB bs us p n 1 none w (.returned (.int .i64 (x : Nat))) w4 from ⟨x, p4, rfl, HM4.out, HE4.out, Ix.out, (fun x e => by cases e), by omega, HF4.out⟩)
      go_wp2
      go_ret
      exact Hfin.out
    ·
      have Hc2 := hid (HB.out X w1 p1 HM1.out (by omega))
      go_wp2_with fail
      refine Hc2.out.mono ?_
      rintro e w2 ⟨a0, p2, rfl, hm2, he2, ha0, -, hl2, hf2⟩
      have HM2 := hid hm2; have HE2 := hid (HE1.out.trans he2); have HF2 := hid (HF1.out.trans hf2)
      have Ia0 := hid ha0
      clear hm2 he2 hf2 ha0 Hc2 HM1 HE1 HF1
      have Hc3 := hid (HB.out X w2 p2 HM2.out (by omega))
      go_wp2_with fail
      refine Hc3.out.mono ?_
      rintro e w3 ⟨a1, p3, rfl, hm3, he3, ha1, -, hl3, hf3⟩
      have HM3 := hid hm3; have HE3 := hid (HE2.out.trans he3); have HF3 := hid (HF2.out.trans hf3)
      replace Ia0 := hid (Ia0.out.ext he3)
      have Ia1 := hid ha1
      clear hm3 he3 hf3 ha1 Hc3 HM2 HE2 HF2
      have Hc4 := hid (HB.out X w3 p3 HM3.out (by omega))
      go_wp2_with fail
      refine Hc4.out.mono ?_
      rintro e w4 ⟨a2, p4, rfl, hm4, he4, ha2, -, hl4, hf4⟩
      have HM4 := hid hm4; have HE4 := hid (HE3.out.trans he4); have HF4 := hid (HF3.out.trans hf4)
      replace Ia0 := hid (Ia0.out.ext he4)
      replace Ia1 := hid (Ia1.out.ext he4)
      have Ia2 := hid ha2
      clear hm4 he4 hf4 ha2 Hc4 HM3 HE3 HF3
      have bq := below1 w4 (.cells #[.int .i64 (a0 : Nat), .int .i64 (a1 : Nat), .int .i64 (a2 : Nat)] 3)
      have HQ := hid (QArg.new HM4.out.base HM4.out.xlt [((a0 : Nat) : Int), ((a1 : Nat) : Int), ((a2 : Nat) : Int)] #[.int .i64 (a0 : Nat), .int .i64 (a1 : Nat), .int .i64 (a2 : Nat)] rfl 3 rfl (by simp))
      have HMa := hid (HM4.out.go bq); have HFa := hid (HF4.out.trans (MkFr.of_below bq))
      have hb5 := BMake_any HMa.out ⟨9, [(a0 : Nat), (a1 : Nat), (a2 : Nat)], 0, 0⟩ (.slice (some ⟨w4.heap.size, 0, none⟩) 3 3) false none 0 0 HQ.out (zeroRaw _) (mk_ite _ a0 a1 a2 1 Ia0.out Ia1.out Ia2.out).1 (by omega) ⟨by simp, by show sz W 0 ≤ 8; rw [sz_zero]; omega⟩
      rw [(mk_ite _ a0 a1 a2 1 Ia0.out Ia1.out Ia2.out).2] at hb5
      have Hb5 := hid hb5
      clear hb5 HQ bq
      go_wp2_with fail
      refine Hb5.out.mono ?_
      rintro e w5 ⟨x, p5, rfl, hm5, he5, hx, -, hl5, hf5⟩
      have HM5 := hid hm5; have HE5 := hid (HE4.out.trans he5); have HF5 := hid (HFa.out.trans hf5)
      have Ix := hid hx
      clear hm5 he5 hf5 hx Hb5 HM4 HE4 HF4 HMa HFa
      have Hfin := hid (show MkRes W0 X b t vB bs us p n 1 none w (.returned (.int .i64 (x : Nat))) w5 from ⟨x, p5, rfl, HM5.out, HE5.out, Ix.out, (fun x e => by cases e), by omega, HF5.out⟩)
      go_wp2
      go_ret
      exact Hfin.out
    ·
      have Hc2 := hid (HW.out X w1 p1 HM1.out (by omega))
      go_wp2_with fail
      refine Hc2.out.mono ?_
      rintro e w2 ⟨a1, p2, rfl, hm2, he2, ha1, -, hl2, hf2⟩
      have HM2 := hid hm2; have HE2 := hid (HE1.out.trans he2); have HF2 := hid (HF1.out.trans hf2)
      have Ia1 := hid ha1
      clear hm2 he2 hf2 ha1 Hc2 HM1 HE1 HF1
      have Hc3 := hid (HW.out X w2 p2 HM2.out (by omega))
      go_wp2_with fail
      refine Hc3.out.mono ?_
      rintro e w3 ⟨a2, p3, rfl, hm3, he3, ha2, -, hl3, hf3⟩
      have HM3 := hid hm3; have HE3 := hid (HE2.out.trans he3); have HF3 := hid (HF2.out.trans hf3)
      replace Ia1 := hid (Ia1.out.ext he3)
      have Ia2 := hid ha2
      clear hm3 he3 hf3 ha2 Hc3 HM2 HE2 HF2
      have bq := below1 w3 (.cells #[.int .i64 (a1 : Nat), .int .i64 (a2 : Nat)] 3)
      have HQ := hid (QArg.new HM3.out.base HM3.out.xlt [((a1 : Nat) : Int), ((a2 : Nat) : Int)] #[.int .i64 (a1 : Nat), .int .i64 (a2 : Nat)] rfl 2 rfl (by simp))
      have HMa := hid (HM3.out.go bq); have HFa := hid (HF3.out.trans (MkFr.of_below bq))
      have hb4 := BMake_any HMa.out ⟨10, [(a1 : Nat), (a2 : Nat)], 0, 0⟩ (.slice (some ⟨w3.heap.size, 0, none⟩) 2 2) false none 0 0 HQ.out (zeroRaw _) (mk_two _ 10 a1 a2 2 (.inr ⟨rfl, by omega⟩) Ia1.out Ia2.out) (by omega) ⟨by simp, by show sz W 0 ≤ 8; rw [sz_zero]; omega⟩
      rw [show plSort _ ⟨10, [(a1 : Nat), (a2 : Nat)], 0, 0⟩ = 1 from rfl] at hb4
      have Hb4 := hid hb4
      clear hb4 HQ bq
      go_wp2_with fail
      refine Hb4.out.mono ?_
      rintro e w4 ⟨x, p4, rfl, hm4, he4, hx, -, hl4, hf4⟩
      have HM4 := hid hm4; have HE4 := hid (HE3.out.trans he4); have HF4 := hid (HFa.out.trans hf4)
      have Ix := hid hx
      clear hm4 he4 hf4 hx Hb4 HM3 HE3 HF3 HMa HFa
      have Hfin := hid (show MkRes W0 X b t vB bs us p n 1 none w (.returned (.int .i64 (x : Nat))) w4 from ⟨x, p4, rfl, HM4.out, HE4.out, Ix.out, (fun x e => by cases e), by omega, HF4.out⟩)
      go_wp2
      go_ret
      exact Hfin.out
    ·
      have Hc2 := hid (HW.out X w1 p1 HM1.out (by omega))
      go_wp2_with fail
      refine Hc2.out.mono ?_
      rintro e w2 ⟨a1, p2, rfl, hm2, he2, ha1, -, hl2, hf2⟩
      have HM2 := hid hm2; have HE2 := hid (HE1.out.trans he2); have HF2 := hid (HF1.out.trans hf2)
      have Ia1 := hid ha1
      clear hm2 he2 hf2 ha1 Hc2 HM1 HE1 HF1
      have Hc3 := hid (HW.out X w2 p2 HM2.out (by omega))
      go_wp2_with fail
      refine Hc3.out.mono ?_
      rintro e w3 ⟨a2, p3, rfl, hm3, he3, ha2, -, hl3, hf3⟩
      have HM3 := hid hm3; have HE3 := hid (HE2.out.trans he3); have HF3 := hid (HF2.out.trans hf3)
      replace Ia1 := hid (Ia1.out.ext he3)
      have Ia2 := hid ha2
      clear hm3 he3 hf3 ha2 Hc3 HM2 HE2 HF2
      have bq := below1 w3 (.cells #[.int .i64 (a1 : Nat), .int .i64 (a2 : Nat)] 3)
      have HQ := hid (QArg.new HM3.out.base HM3.out.xlt [((a1 : Nat) : Int), ((a2 : Nat) : Int)] #[.int .i64 (a1 : Nat), .int .i64 (a2 : Nat)] rfl 2 rfl (by simp))
      have HMa := hid (HM3.out.go bq); have HFa := hid (HF3.out.trans (MkFr.of_below bq))
      have hb4 := BMake_any HMa.out ⟨10, [(a1 : Nat), (a2 : Nat)], 0, 0⟩ (.slice (some ⟨w3.heap.size, 0, none⟩) 2 2) false none 0 0 HQ.out (zeroRaw _) (mk_two _ 10 a1 a2 2 (.inr ⟨rfl, by omega⟩) Ia1.out Ia2.out) (by omega) ⟨by simp, by show sz W 0 ≤ 8; rw [sz_zero]; omega⟩
      rw [show plSort _ ⟨10, [(a1 : Nat), (a2 : Nat)], 0, 0⟩ = 1 from rfl] at hb4
      have Hb4 := hid hb4
      clear hb4 HQ bq
      go_wp2_with fail
      refine Hb4.out.mono ?_
      rintro e w4 ⟨x, p4, rfl, hm4, he4, hx, -, hl4, hf4⟩
      have HM4 := hid hm4; have HE4 := hid (HE3.out.trans he4); have HF4 := hid (HFa.out.trans hf4)
      have Ix := hid hx
      clear hm4 he4 hf4 hx Hb4 HM3 HE3 HF3 HMa HFa
      have Hfin := hid (show MkRes W0 X b t vB bs us p n 1 none w (.returned (.int .i64 (x : Nat))) w4 from ⟨x, p4, rfl, HM4.out, HE4.out, Ix.out, (fun x e => by cases e), by omega, HF4.out⟩)
      go_wp2
      go_ret
      exact Hfin.out
    ·
      have Hc2 := hid (HW.out X w1 p1 HM1.out (by omega))
      go_wp2_with fail
      refine Hc2.out.mono ?_
      rintro e w2 ⟨a1, p2, rfl, hm2, he2, ha1, -, hl2, hf2⟩
      have HM2 := hid hm2; have HE2 := hid (HE1.out.trans he2); have HF2 := hid (HF1.out.trans hf2)
      have Ia1 := hid ha1
      clear hm2 he2 hf2 ha1 Hc2 HM1 HE1 HF1
      have Hc3 := hid (HW.out X w2 p2 HM2.out (by omega))
      go_wp2_with fail
      refine Hc3.out.mono ?_
      rintro e w3 ⟨a2, p3, rfl, hm3, he3, ha2, -, hl3, hf3⟩
      have HM3 := hid hm3; have HE3 := hid (HE2.out.trans he3); have HF3 := hid (HF2.out.trans hf3)
      replace Ia1 := hid (Ia1.out.ext he3)
      have Ia2 := hid ha2
      clear hm3 he3 hf3 ha2 Hc3 HM2 HE2 HF2
      have bq := below1 w3 (.cells #[.int .i64 (a1 : Nat), .int .i64 (a2 : Nat)] 3)
      have HQ := hid (QArg.new HM3.out.base HM3.out.xlt [((a1 : Nat) : Int), ((a2 : Nat) : Int)] #[.int .i64 (a1 : Nat), .int .i64 (a2 : Nat)] rfl 2 rfl (by simp))
      have HMa := hid (HM3.out.go bq); have HFa := hid (HF3.out.trans (MkFr.of_below bq))
      have hb4 := BMake_any HMa.out ⟨11, [(a1 : Nat), (a2 : Nat)], 0, 0⟩ (.slice (some ⟨w3.heap.size, 0, none⟩) 2 2) false none 0 0 HQ.out (zeroRaw _) (mk_two _ 11 a1 a2 2 (.inr ⟨rfl, by omega⟩) Ia1.out Ia2.out) (by omega) ⟨by simp, by show sz W 0 ≤ 8; rw [sz_zero]; omega⟩
      rw [show plSort _ ⟨11, [(a1 : Nat), (a2 : Nat)], 0, 0⟩ = 1 from rfl] at hb4
      have Hb4 := hid hb4
      clear hb4 HQ bq
      go_wp2_with fail
      refine Hb4.out.mono ?_
      rintro e w4 ⟨x, p4, rfl, hm4, he4, hx, -, hl4, hf4⟩
      have HM4 := hid hm4; have HE4 := hid (HE3.out.trans he4); have HF4 := hid (HFa.out.trans hf4)
      have Ix := hid hx
      clear hm4 he4 hf4 hx Hb4 HM3 HE3 HF3 HMa HFa
      have Hfin := hid (show MkRes W0 X b t vB bs us p n 1 none w (.returned (.int .i64 (x : Nat))) w4 from ⟨x, p4, rfl, HM4.out, HE4.out, Ix.out, (fun x e => by cases e), by omega, HF4.out⟩)
      go_wp2
      go_ret
      exact Hfin.out
    ·
      have Hc2 := hid (HW.out X w1 p1 HM1.out (by omega))
      go_wp2_with fail
      refine Hc2.out.mono ?_
      rintro e w2 ⟨a1, p2, rfl, hm2, he2, ha1, -, hl2, hf2⟩
      have HM2 := hid hm2; have HE2 := hid (HE1.out.trans he2); have HF2 := hid (HF1.out.trans hf2)
      have Ia1 := hid ha1
      clear hm2 he2 hf2 ha1 Hc2 HM1 HE1 HF1
      have Hc3 := hid (HW.out X w2 p2 HM2.out (by omega))
      go_wp2_with fail
      refine Hc3.out.mono ?_
      rintro e w3 ⟨a2, p3, rfl, hm3, he3, ha2, -, hl3, hf3⟩
      have HM3 := hid hm3; have HE3 := hid (HE2.out.trans he3); have HF3 := hid (HF2.out.trans hf3)
      replace Ia1 := hid (Ia1.out.ext he3)
      have Ia2 := hid ha2
      clear hm3 he3 hf3 ha2 Hc3 HM2 HE2 HF2
      have bq := below1 w3 (.cells #[.int .i64 (a1 : Nat), .int .i64 (a2 : Nat)] 3)
      have HQ := hid (QArg.new HM3.out.base HM3.out.xlt [((a1 : Nat) : Int), ((a2 : Nat) : Int)] #[.int .i64 (a1 : Nat), .int .i64 (a2 : Nat)] rfl 2 rfl (by simp))
      have HMa := hid (HM3.out.go bq); have HFa := hid (HF3.out.trans (MkFr.of_below bq))
      have hb4 := BMake_any HMa.out ⟨11, [(a1 : Nat), (a2 : Nat)], 0, 0⟩ (.slice (some ⟨w3.heap.size, 0, none⟩) 2 2) false none 0 0 HQ.out (zeroRaw _) (mk_two _ 11 a1 a2 2 (.inr ⟨rfl, by omega⟩) Ia1.out Ia2.out) (by omega) ⟨by simp, by show sz W 0 ≤ 8; rw [sz_zero]; omega⟩
      rw [show plSort _ ⟨11, [(a1 : Nat), (a2 : Nat)], 0, 0⟩ = 1 from rfl] at hb4
      have Hb4 := hid hb4
      clear hb4 HQ bq
      go_wp2_with fail
      refine Hb4.out.mono ?_
      rintro e w4 ⟨x, p4, rfl, hm4, he4, hx, -, hl4, hf4⟩
      have HM4 := hid hm4; have HE4 := hid (HE3.out.trans he4); have HF4 := hid (HFa.out.trans hf4)
      have Ix := hid hx
      clear hm4 he4 hf4 hx Hb4 HM3 HE3 HF3 HMa HFa
      have Hfin := hid (show MkRes W0 X b t vB bs us p n 1 none w (.returned (.int .i64 (x : Nat))) w4 from ⟨x, p4, rfl, HM4.out, HE4.out, Ix.out, (fun x e => by cases e), by omega, HF4.out⟩)
      go_wp2
      go_ret
      exact Hfin.out
    ·
      have Hc2 := hid (HZ.out X w1 p1 HM1.out (by omega))
      go_wp2_with fail
      refine Hc2.out.mono ?_
      rintro e w2 ⟨a1, p2, rfl, hm2, he2, ha1, -, hl2, hf2⟩
      have HM2 := hid hm2; have HE2 := hid (HE1.out.trans he2); have HF2 := hid (HF1.out.trans hf2)
      have Ia1 := hid ha1
      clear hm2 he2 hf2 ha1 Hc2 HM1 HE1 HF1
      have Ha3 := hid (app_any HM2.out m 1 1 deep a1 (by omega) (by constructor <;> omega) (fun _ => HW.out) (by omega) Ia1.out)
      go_wp2_with fail
      refine Ha3.out.mono ?_
      rintro e w3 ⟨y, p3, rfl, hm3, he3, hy, -, hl3, hf3⟩
      have HM3 := hid hm3; have HE3 := hid (HE2.out.trans he3); have HF3 := hid (HF2.out.trans hf3)
      have Iy := hid hy
      clear hm3 he3 hf3 hy Ha3
      have Hfin := hid (show MkRes W0 X b t vB bs us p n 1 none w (.returned (.int .i64 (y : Nat))) w3 from ⟨y, p3, rfl, HM3.out, HE3.out, Iy.out, (fun x e => by cases e), by omega, HF3.out⟩)
      go_wp2
      go_ret
      exact Hfin.out
end Go.Proofs.YthheafjilbeddaaDoor
/- elenchusmake's rows, whole: Syms, Start, Rows. -/
namespace Go.Proofs.YthheafjilbeddaaDoor
open Go.RowKit Big Go.WideMaps

theorem mk_all {W0 : World} {b t : Nat} {vB : Value} {bs : List Nat} {us : List Int} : ∀ d : Nat, d ≤ 100 →
    (∀ X w p, MkAt W0 X w b t vB bs p us → p.terms.length + mkN d ≤ 4096 → Calls Tryd.prog 46 #[.pointer (some ⟨b, 0, none⟩), .int .i64 (d : Nat)] w (MkRes W0 X b t vB bs us p (mkN d) 2 none w)) ∧
    (∀ X w p, MkAt W0 X w b t vB bs p us → p.terms.length + mkN d ≤ 4096 → Calls Tryd.prog 47 #[.pointer (some ⟨b, 0, none⟩), .int .i64 (d : Nat)] w (MkRes W0 X b t vB bs us p (mkN d) 1 none w))
  | 0, _ => ⟨fun X w p h hn => Whole_step h 0 0 2 (by omega) (by omega) (by omega) (by omega) hn (fun h => by omega) (fun h => by omega) (fun h => by omega),
      fun X w p h hn => Bool_step h 0 0 2 (by omega) (by omega) (by omega) (by omega) hn (fun h => by omega) (fun h => by omega) (fun h => by omega)⟩
  | d + 1, hd => by
    have ih := mk_all (W0 := W0) (b := b) (t := t) (vB := vB) (bs := bs) (us := us) d (by omega)
    have i0 := mk_all (W0 := W0) (b := b) (t := t) (vB := vB) (bs := bs) (us := us) 0 (by omega)
    have e : (((d + 1 : Nat) : Int)) - 1 = (d : Nat) := by omega
    have hN : mkN (d + 1) = 3 * mkN d + 3 := rfl
    refine ⟨fun X w p h hn => Whole_step h ((d + 1 : Nat) : Int) (mkN d) (mkN (d + 1)) (by omega) (by omega) (by omega) (fun _ => by omega) hn (fun _ => ?_) (fun _ => ?_) (fun _ => i0.1),
      fun X w p h hn => Bool_step h ((d + 1 : Nat) : Int) (mkN d) (mkN (d + 1)) (by omega) (by omega) (by omega) (fun _ => by omega) hn (fun _ => ?_) (fun _ => ?_) (fun _ => i0.2)⟩
    · rw [e]; exact ih.1
    · rw [e]; exact ih.2
    · rw [e]; exact ih.1
    · rw [e]; exact ih.2
/-- the usual symbols -/
def mkSyms : List Sy := [⟨[112], 0, 1⟩, ⟨[113], 0, 1⟩, ⟨[120], 0, 2⟩, ⟨[121], 0, 2⟩, ⟨[122], 0, 2⟩, ⟨[102], 1, 2⟩, ⟨[103], 2, 1⟩]
set_option maxRecDepth 100000 in
set_option maxHeartbeats 3200000 in
theorem Syms_any (w : World) : Calls Tryd.prog 61 #[] w (fun e w' => ∃ v, e = .returned v ∧ w'.ownsRow w.heap.size 51 3 v mkSyms.length (syCells mkSyms) ∧ Below w.heap.size w w') := by
  go_enter Tryd.func61, Tryd.ntmps61
  go_wp2
  go_ret
  refine ⟨_, rfl, ⟨rfl, .inr ⟨w.heap.size, 7, _, rfl, Nat.le_refl _, heap_alloc_new w _, by decide, by simp [maxLen], by simp, by rfl⟩⟩, below1 _ _⟩
def zr (k : Nat) : List Int := (List.range k).map fun (n : Nat) => (n : Int)
theorem zr_len (k : Nat) : (zr k).length = k := by simp [zr]
theorem zr_succ (k : Nat) : zr (k + 1) = zr k ++ [((k : Nat) : Int)] := by simp [zr, List.range_succ]
theorem MkP.empty (s : List Sy) (hs : s.length ≤ 256) : MkP ⟨s, [], []⟩ := ⟨⟨rfl, by simp, hs, fun k h => absurd h (by simp)⟩, ⟨rfl, fun k h => absurd h (by simp)⟩, fun t h => absurd h (by simp)⟩
/-- the loop of Start -/
theorem MkParts.more {W0 w w' : World} {b t : Nat} {vB : Value} {bs : List Nat} {s : List Sy} {us us' : List Int} {vs vy vy' : Value} (h : MkParts W0 (fun _ => False) w b t vB bs ⟨s, [], []⟩ us vs (.slice none 0 0) vy) (hA : Apart (fun k => vy.ownBlock = some k) w w') (hr : w'.ownsRow W0.heap.size 3 1 vy' us'.length (zints us'))
    (hu : ∀ k ∈ us', ∃ j : Nat, k = (j : Nat) ∧ j < s.length) (hf : us'.length ≤ 256) : MkParts W0 (fun _ => False) (w'.setCell ⟨b, 3, none⟩ vy') b t vB bs ⟨s, [], []⟩ us' vs (.slice none 0 0) vy' := by
  have hne : ∀ (k : Nat) (c : Array Value) (ty : TypeId), w.heap[k]? = some (.cells c ty (0, 0)) → ty ≠ 3 → w'.heap[k]? = w.heap[k]? := fun k c ty hc h1 => hA.block k (lt_of_block hc) (fun hs => by
    obtain ⟨c', hc'⟩ := row_tag h.used k hs
    exact tag_ne hc hc' h1 rfl)
  have hcb := (hne b _ _ h.cell (by decide)).trans h.cell
  have F : ∀ k, k ≠ b → (w'.setCell ⟨b, 3, none⟩ vy').heap[k]? = w'.heap[k]? := fun k hk => Below.heap_setCell _ _ _ _ hk
  refine ⟨?_, h.ge, by simpa using heap_setCell_same w' b 3 _ _ vy' hcb, row_stays h.syms fun k hk => ?_, ⟨[], World.ownsRow_nil _ _ _ _, rfl⟩, row_stays hr fun k hk => ?_, h.mkp, hu, h.arity, hf, (fun k hk => hk.elim), fun k _ hk => hk⟩
  · obtain ⟨h1, h2, h3, h4, a, ha, hc⟩ := h.tp
    refine ⟨h1, h2, h3, (h4.trans (hA.below h4.size (fun k hk => (World.ownsRow.lt h.used k hk).1))).setCell (p := ⟨b, 3, none⟩) h.ge vy', a, ha, (F t (tag_ne hc h.cell (by decide))).trans ((hne t _ _ hc (by decide)).trans hc)⟩
  · obtain ⟨c, hc⟩ := row_tag h.syms k hk
    exact (F k (tag_ne hc h.cell (by decide))).trans (hne k c _ hc (by decide))
  · obtain ⟨c, hc⟩ := row_tag hr k hk
    exact F k (tag_ne hc hcb (by decide))
set_option maxRecDepth 100000 in
set_option maxHeartbeats 3200000 in
theorem Start_any {W0 w : World} {t : Nat} {vB : Value} {bs : List Nat} (h : TpIn W0 w t vB bs) : Calls Tryd.prog 44 #[.pointer (some ⟨t, 0, none⟩)] w (fun e w' => ∃ b, e = .returned (.pointer (some ⟨b, 0, none⟩)) ∧ MkAt W0 (fun _ => False) w' b t vB bs ⟨mkSyms, [], []⟩ (zr 7) ∧ Below w.heap.size w w') := by
  have HT := hid h
  have hW0 := h.2.2.2.1.size
  clear h
  go_enter Tryd.func44, Tryd.ntmps44
  go_wp2_with fail
  refine (Syms_any w).mono ?_
  rintro e w1 ⟨v, rfl, hs, b1⟩
  obtain ⟨ps, cs, rfl⟩ := ownsRow_shape hs
  have hL : mkSyms.length = 7 := rfl
  rw [hL] at hs ⊢
  have b2 := below1 w1 (.cells #[.slice ps 7 cs, .slice none 0 0, .pointer (some ⟨t, 0, none⟩), .slice none 0 0] 88)
  have hc2 := heap_alloc_new w1 (.cells #[.slice ps 7 cs, .slice none 0 0, .pointer (some ⟨t, 0, none⟩), .slice none 0 0] 88)
  have hz1 := b1.size
  have H2 : Hid (MkParts W0 (fun _ => False) (w1.alloc (.cells #[.slice ps 7 cs, .slice none 0 0, .pointer (some ⟨t, 0, none⟩), .slice none 0 0] 88)) w1.heap.size t vB bs ⟨mkSyms, [], []⟩ (zr 0) (.slice ps 7 cs) (.slice none 0 0) (.slice none 0 0)) := hid
    ⟨(HT.out.go b1).go b2, by omega, hc2, ownsRow_later (ownsRow_mono hs hW0) b2, ⟨[], World.ownsRow_nil _ _ _ _, rfl⟩, World.ownsRow_nil _ _ _ _, MkP.empty _ (by decide), (fun k h => absurd h (by simp [zr])), (by decide), by simp [zr], (fun k hk => hk.elim), fun k hk => by cases hk⟩
  have HB2 := hid (bel_go b2 b1)
  have q4 := four_cells hc2
  obtain ⟨k0, k1, k2, k3⟩ := q4
  clear hs b1 b2 hc2
  go_upto_region 2 with fail
  generalize hW : (w1.alloc (.cells #[.slice ps 7 cs, .slice none 0 0, .pointer (some ⟨t, 0, none⟩), .slice none 0 0] 88)) = w2 at *
  clear hW
  go_wp2_with fail
  go_loopw [16] (fun i wr => ∃ k : Nat, k ≤ 7 ∧ i = .int .i64 (k : Nat) ∧ Hid (∃ vy, MkParts W0 (fun _ => False) wr w1.heap.size t vB bs ⟨mkSyms, [], []⟩ (zr k) (.slice ps 7 cs) (.slice none 0 0) vy ∧ ∀ i, vy.ownBlock = some i → w.heap.size ≤ i) ∧ Hid (Below w.heap.size w wr)) (fun i _ => 7 - (intOf i).toNat)
  case atStart => exact ⟨0, by omega, rfl, hid ⟨_, H2.out, fun i hi => by cases hi⟩, HB2⟩
  case round =>
    obtain ⟨k, hk, rfl, Hk, Hb⟩ := hrel
    obtain ⟨vy, H, hvy⟩ := Hk.out
    have q4 := four_cells H.cell
    clear k0 k1 k2 k3
    obtain ⟨k0, k1, k2, k3⟩ := q4
    have f3 := frozen_all H.cell 3
    obtain ⟨py, cy, rfl⟩ := ownsRow_shape H.used
    rw [zr_len] at k3 H hvy
    by_cases hlt : k < 7
    · have hlt' : (k : Int) < 7 := by omega
      have b1 := below1 wr (.cells #[.int .i64 (k : Nat)] 3)
      have hbl := lt_of_block H.cell
      have H1 := H.go b1
      have hu1 := H1.used
      have hi1 := IAt.one wr (k : Nat)
      have hbz := H1.tp.2.2.2.1.size
      have hzl := zr_len k
      have hZl := hid hzl
      have hzl1 : (zr k).length ≤ 7 := by omega
      have HH1 := hid H1
      have hcb1 := H1.cell
      have hbl1 := lt_of_block hcb1
      clear hzl H H1
      go_wp2_with (at_builtin; refine wpList_append_zints_g rfl _ _ 33 rfl elemInts W0.heap.size _ (zr k) rfl hu1 _ [((k : Nat) : Int)] rfl hi1 (by simp) (by simp [maxLen]; omega) (by simp; omega) hbz ?_; intro v5 w5 ho5 hA5 hv5; obtain ⟨p5, c5, rfl⟩ := ownsRow_shape ho5; have hcb5 := (hA5.block w1.heap.size hbl1 (row_ne hu1 hcb1 (by decide) _ · rfl)).trans hcb1; have q5 := four_cells hcb5; obtain ⟨y0, y1, y2, y3⟩ := q5; have z3 := frozen_all hcb5 3)
      have hm5 := HH1.out.more hA5 (us' := zr (k + 1)) (by rw [zr_succ]; exact ho5) (fun x hx => by
        obtain ⟨n, hn, rfl⟩ := List.mem_map.1 hx
        exact ⟨n, rfl, by have := List.mem_range.1 hn; show n < 7; omega⟩) (by rw [zr_len]; omega)
      have hbb := (hA5.below (B := w.heap.size) (by have := b1.size; have := Hb.out.size; omega) (fun i hi => hvy i hi))
      have hwb : w.heap.size ≤ w1.heap.size := hz1
      have Hrel := hid (show (∃ vy, MkParts W0 (fun _ => False) (w5.setCell ⟨w1.heap.size, 3, none⟩ (.slice p5 (zr k ++ [((k : Nat) : Int)]).length c5)) w1.heap.size t vB bs ⟨mkSyms, [], []⟩ (zr (k + 1)) (.slice ps 7 cs) (.slice none 0 0) vy ∧ ∀ i, vy.ownBlock = some i → w.heap.size ≤ i) ∧ Below w.heap.size w (w5.setCell ⟨w1.heap.size, 3, none⟩ (.slice p5 (zr k ++ [((k : Nat) : Int)]).length c5)) from
        ⟨⟨_, hm5, fun i hi => by
          rcases hv5 with e | e
          · rw [e] at hi; exact hvy i hi
          · rw [e] at hi
            have hi : _ = i := Option.some.inj hi
            have := Hb.out.size; have := b1.size; omega⟩, ((bel_go b1 Hb.out).trans hbb).setCell (p := ⟨w1.heap.size, 3, none⟩) hwb _⟩)
      clear hm5 hbb hA5 hv5 ho5
      go_roundw
      case rel =>
        have hr := Hrel.out
        simp only [List.length_append, List.length_cons, List.length_nil, Nat.zero_add] at hr
        exact ⟨k + 1, by omega, rfl, hid hr.1, hid hr.2⟩
      case measure => simp [intOf]; omega
    · have hkk : k = 7 := by omega
      subst hkk
      clear H f3
      go_wp2
      go_ret
      obtain ⟨vy', H', -⟩ := Hk.out
      exact ⟨_, rfl, ⟨_, _, _, H'⟩, Hb.out⟩
set_option maxRecDepth 100000 in
set_option maxHeartbeats 3200000 in
theorem Rows_mk {W0 w : World} {t : Nat} {vB : Value} {bs : List Nat} (h : TpIn W0 w t vB bs) : Calls Tryd.prog 24 #[.pointer (some ⟨t, 0, none⟩)] w (fun e w' => ∃ v p, e = .returned v ∧ RwIn w' v p.syms p.terms ∧ MkP p ∧ p.syms = mkSyms ∧ Below W0.heap.size W0 w' ∧ MkFr w w') := by
  have b0 := below1 w (.cells #[.slice none 0 0, .slice none 0 0] 27)
  have hr0 := heap_alloc_new w (.cells #[.slice none 0 0, .slice none 0 0] 27)
  have hz0 := size_alloc w (.cells #[.slice none 0 0, .slice none 0 0] 27)
  have HS := hid (Start_any (h.go b0))
  have htl := h.2.2.2.2.lt
  have hWw := h.2.2.2.1.size
  have F0 := hid (MkFr.of_below b0)
  clear h b0
  go_enter Tryd.func24, Tryd.ntmps24
  go_wp2_with fail
  generalize hW : (w.alloc (.cells #[.slice none 0 0, .slice none 0 0] 27)) = W1 at *
  clear hW
  refine HS.out.mono ?_
  rintro e w1 ⟨b, rfl, hm1, b1⟩
  have HM1 := hid hm1; have HF1 := hid (F0.out.trans (MkFr.of_below b1))
  have hr1 := (b1.block w.heap.size (by omega)).trans hr0
  have Hn := hid (Next_in 4 hm1.tp (by decide))
  clear hm1 b1 hr0 HS F0
  go_wp2_with fail
  refine Hn.out.mono ?_
  rintro e w2 ⟨k0, rfl, hk0, ht2, hA2⟩
  have hk4 : k0 < 4 := by omega
  have hf2 := HM1.out.tp.fr hA2
  have hr2 := hf2.cells hr1 (by decide) (by decide) (by decide)
  have Hat : Hid (∃ p, MkAt W0 (fun _ => False) w2 b t vB bs p (zr 7) ∧ p.syms = mkSyms ∧ p.terms.length ≤ (k0 - k0) * 93 ∧ MkFr w w2 ∧ w2.heap[w.heap.size]? = some (.cells #[.slice none 0 0, .slice none 0 0] 27 (0, 0))) := hid ⟨_, HM1.out.next ht2 hA2, rfl, by simp, HF1.out.trans hf2, hr2⟩
  clear ht2 hA2 hf2 hr1 hr2 HM1 HF1 Hn hk0
  have H3 := mk_all (W0 := W0) (b := b) (t := t) (vB := vB) (bs := bs) (us := zr 7) 3 (by omega)
  have hN3 : mkN 3 = 93 := by decide
  rw [hN3] at H3
  have HW3 := hid H3.1; have HB3 := hid H3.2
  clear H3 hN3
  go_wp2_with fail
  go_loopw [4] (fun i wr => ∃ k : Int, -1 ≤ k ∧ k ≤ (k0 : Nat) ∧ i = .int .i64 k ∧ Hid (∃ p, MkAt W0 (fun _ => False) wr b t vB bs p (zr 7) ∧ p.syms = mkSyms ∧ (p.terms.length : Int) ≤ ((k0 : Nat) - k) * 93 ∧ MkFr w wr ∧ wr.heap[w.heap.size]? = some (.cells #[.slice none 0 0, .slice none 0 0] 27 (0, 0)))) (fun i _ => (intOf i + 1).toNat)
  case atStart => exact ⟨(k0 : Nat), by omega, by omega, rfl, hid (by obtain ⟨p, h1, h2, h3, h4⟩ := Hat.out; exact ⟨p, h1, h2, by simp at h3 ⊢; simp [h3], h4⟩)⟩
  case round =>
    obtain ⟨k, hkm, hkk, rfl, Hk⟩ := hrel
    obtain ⟨p, hm, hsy, hl, hf, hr⟩ := Hk.out
    have HM := hid hm; have HF := hid hf; have Hsy := hid hsy; have Hr := hid hr
    by_cases hge : 0 ≤ k
    · have hged : decide (0 ≤ k) = true := by simp [hge]
      have Hn := hid (Next_in 2 hm.tp (by decide))
      clear hm hf hsy hr Hk Hat
      go_wp2_with fail
      refine Hn.out.mono ?_
      rintro e w3 ⟨q, rfl, hq, ht3, hA3⟩
      have hf3 := HM.out.tp.fr hA3
      have HM3 := hid (HM.out.next ht3 hA3); have HF3 := hid (HF.out.trans hf3); have Hr3 := hid (hf3.cells Hr.out (by decide) (by decide) (by decide))
      have hlen : p.terms.length + 93 ≤ 4096 := by omega
      have Hcw := hid (HW3.out _ w3 p HM3.out hlen); have Hcb := hid (HB3.out _ w3 p HM3.out hlen)
      clear ht3 hA3 hf3 Hn HM HF Hr
      rcases (show q = 0 ∨ q = 1 by omega) with rfl | rfl
      · go_wp2_with fail
        refine Hcb.out.mono ?_
        rintro e w4 ⟨x, p4, rfl, hm4, he4, hx4, -, hl4, hf4⟩
        have HK := hid (show ∃ p, MkAt W0 (fun _ => False) w4 b t vB bs p (zr 7) ∧ p.syms = mkSyms ∧ (p.terms.length : Int) ≤ ((k0 : Nat) - (k - 1)) * 93 ∧ MkFr w w4 ∧ w4.heap[w.heap.size]? = some (.cells #[.slice none 0 0, .slice none 0 0] 27 (0, 0)) from ⟨p4, hm4, he4.1.trans Hsy.out, by omega, HF3.out.trans hf4, hf4.cells Hr3.out (by decide) (by decide) (by decide)⟩)
        clear hm4 he4 hx4 hf4
        go_wp2_with fail
        go_roundw
        case rel => exact ⟨k - 1, by omega, by omega, rfl, HK⟩
        case measure => simp [intOf]; omega
      · go_wp2_with fail
        refine Hcw.out.mono ?_
        rintro e w4 ⟨x, p4, rfl, hm4, he4, hx4, -, hl4, hf4⟩
        have HK := hid (show ∃ p, MkAt W0 (fun _ => False) w4 b t vB bs p (zr 7) ∧ p.syms = mkSyms ∧ (p.terms.length : Int) ≤ ((k0 : Nat) - (k - 1)) * 93 ∧ MkFr w w4 ∧ w4.heap[w.heap.size]? = some (.cells #[.slice none 0 0, .slice none 0 0] 27 (0, 0)) from ⟨p4, hm4, he4.1.trans Hsy.out, by omega, HF3.out.trans hf4, hf4.cells Hr3.out (by decide) (by decide) (by decide)⟩)
        clear hm4 he4 hx4 hf4
        go_wp2_with fail
        go_roundw
        case rel => exact ⟨k - 1, by omega, by omega, rfl, HK⟩
        case measure => simp [intOf]; omega
    · have hged : decide (0 ≤ k) = false := by simp; omega
      obtain ⟨vs, vr, vy, H⟩ := hm
      obtain ⟨ps, cs, rfl⟩ := ownsRow_shape H.syms
      obtain ⟨pr, cr, rfl⟩ := H.rows.shape
      have q4 := four_cells H.cell
      obtain ⟨y0, y1, y2, y3⟩ := q4
      have q2 := two_cells hr
      obtain ⟨r0, r1, f0, f1⟩ := q2
      have hne : ∀ (k : Nat) (c : Array Value) (ty : TypeId), wr.heap[k]? = some (.cells c ty (0, 0)) → ty ≠ 27 → ((wr.setCell ⟨w.heap.size, 0, none⟩ (.slice ps p.syms.length cs)).setCell ⟨w.heap.size, 1, none⟩ (.slice pr p.terms.length cr)).heap[k]? = wr.heap[k]? := fun k c ty hc ht => (Below.heap_setCell _ _ _ _ (tag_ne hc hr ht)).trans (Below.heap_setCell _ _ _ _ (tag_ne hc hr ht))
      have hrw : RwIn ((wr.setCell ⟨w.heap.size, 0, none⟩ (.slice ps p.syms.length cs)).setCell ⟨w.heap.size, 1, none⟩ (.slice pr p.terms.length cr)) (.agg #[.slice ps p.syms.length cs, .slice pr p.terms.length cr]) p.syms p.terms := by
        refine ⟨_, _, rfl, (SyAt.own (row_stays (ownsRow_mono H.syms (Nat.zero_le _)) fun k hk => ?_)).handed, ?_⟩
        · obtain ⟨c, hc⟩ := row_tag H.syms k hk
          exact hne k c _ hc (by decide)
        · refine MfIn.tms (Q := QArg W0 (fun _ => False) ((wr.setCell ⟨w.heap.size, 0, none⟩ (.slice ps p.syms.length cs)).setCell ⟨w.heap.size, 1, none⟩ (.slice pr p.terms.length cr))) ((H.rows.stays (fun k c ty hc _ hk => ?_) (fun k c hc => hne k c _ hc (by decide))).q fun va l q => ⟨row_stays q.1 fun k hk => ?_, q.2⟩) (fun va l q => IAt.own (ownsRow_mono q.1 (Nat.zero_le _))) (fun x hx => Nat.le_trans (H.mkp.small x hx).2 (by decide))
          · rcases hk with rfl | hk
            · exact hne k c _ hc (by decide)
            · obtain ⟨cs', hr', -⟩ := H.rows
              obtain ⟨c', hc'⟩ := row_tag hr' k hk
              exact hne k c' _ hc' (by decide)
          · obtain ⟨c, hc⟩ := row_tag q.1 k hk
            exact hne k c _ hc (by decide)
      have hbw : Below W0.heap.size W0 ((wr.setCell ⟨w.heap.size, 0, none⟩ (.slice ps p.syms.length cs)).setCell ⟨w.heap.size, 1, none⟩ (.slice pr p.terms.length cr)) := (H.tp.2.2.2.1.setCell (p := ⟨w.heap.size, 0, none⟩) hWw _).setCell (p := ⟨w.heap.size, 1, none⟩) hWw _
      have hfw := (hf.setNew (p := ⟨w.heap.size, 0, none⟩) (Nat.le_refl _) (.slice ps p.syms.length cs)).setNew (p := ⟨w.heap.size, 1, none⟩) (Nat.le_refl _) (.slice pr p.terms.length cr)
      have hs2 := set2_same hr (.slice ps p.syms.length cs) (.slice pr p.terms.length cr)
      have Hfin := hid (And.intro hrw (And.intro H.mkp (And.intro hsy (And.intro hbw hfw))))
      have q2 := two_cells hs2
      obtain ⟨s0, s1, -, -⟩ := q2
      clear hrw hbw hfw hs2 H hne hr hf hsy hl Hk HM HF Hsy Hr Hat
      go_wp2
      refine bodyPost_ret (v := .agg #[.slice ps p.syms.length cs, .slice pr p.terms.length cr]) (by simp [results, Tryd.results24, go_sem, s0, s1]) rfl ?_
      exact ⟨_, rfl, p, Hfin.out⟩
end Go.Proofs.YthheafjilbeddaaDoor
/- elenchusref04.SameRows of rows that are the same. -/
namespace Go.Proofs.YthheafjilbeddaaDoor
open Go.RowKit Big Go.WideMaps

set_option maxRecDepth 100000 in
set_option maxHeartbeats 25600000 in
theorem SameRows_true (va vb : Value) (s : List Sy) (l : List Tm) (w : World) (ha : RwIn w va s l) (hb : RwIn w vb s l) (hsz : ∀ x ∈ l, sz W x.num.natAbs ≤ 549755813888) :
    Calls Tryd.prog 18 #[va, vb] w (RBool true w) := by
  obtain ⟨a0, a1, rfl, ⟨pa, ca, rfl, i1, i2, -, i4⟩, hta⟩ := ha
  obtain ⟨b0, b1, rfl, ⟨pc, cc, rfl, k1, k2, -, k4⟩, htb⟩ := hb
  have Hta := hid hta; have Htb := hid htb
  obtain ⟨pb, cb, rfl, b1, b2, -, -⟩ := hta
  obtain ⟨pd, cd, rfl, -, d2, -, -⟩ := htb
  have Hi := hid i4; have Hk := hid k4; have Hsz := hid hsz
  unfold maxLen at i2 k2 b2 d2
  have bx := below1 w (.cells #[.slice pa s.length ca, .slice pb l.length cb] 27)
  have hx0 := heap_alloc_new w (.cells #[.slice pa s.length ca, .slice pb l.length cb] 27)
  have hz := size_alloc w (.cells #[.slice pa s.length ca, .slice pb l.length cb] 27)
  have by_ := below1 (w.alloc (.cells #[.slice pa s.length ca, .slice pb l.length cb] 27)) (.cells #[.slice pc s.length cc, .slice pd l.length cd] 27)
  have hy0 := heap_alloc_new (w.alloc (.cells #[.slice pa s.length ca, .slice pb l.length cb] 27)) (.cells #[.slice pc s.length cc, .slice pd l.length cd] 27)
  have hz2 := size_alloc (w.alloc (.cells #[.slice pa s.length ca, .slice pb l.length cb] 27)) (.cells #[.slice pc s.length cc, .slice pd l.length cd] 27)
  rw [hz] at hy0 hz2
  have hx1 := (by_.block w.heap.size (by omega)).trans hx0
  have bw := bel_go by_ bx
  clear i4 k4 hsz bx hx0 by_
  go_enter Tryd.func18, Tryd.ntmps18
  go_upto_region 1 with fail
  generalize hW : ((w.alloc (.cells #[.slice pa s.length ca, .slice pb l.length cb] 27)).alloc (.cells #[.slice pc s.length cc, .slice pd l.length cd] 27)) = W2 at *
  clear hW hz
  have HZ : Hid (∀ w', Below W2.heap.size W2 w' → w'.cell? ⟨w.heap.size, 0, none⟩ = some (.slice pa s.length ca) ∧ w'.cell? ⟨w.heap.size, 1, none⟩ = some (.slice pb l.length cb) ∧ w'.cell? ⟨w.heap.size + 1, 0, none⟩ = some (.slice pc s.length cc) ∧ w'.cell? ⟨w.heap.size + 1, 1, none⟩ = some (.slice pd l.length cd)) := hid fun w' hb =>
    ⟨(two_cells ((hb.block w.heap.size (by omega)).trans hx1)).1, (two_cells ((hb.block w.heap.size (by omega)).trans hx1)).2.1, (two_cells ((hb.block (w.heap.size + 1) (by omega)).trans hy0)).1, (two_cells ((hb.block (w.heap.size + 1) (by omega)).trans hy0)).2.1⟩
  have HBw := hid bw
  clear hx1 hy0 bw hz2
  obtain ⟨z0, z1, y0, y1⟩ := HZ.out W2 (Below.refl _ _)
  go_wp2_with fail
  clear z0 z1 y0 y1
  go_loopw [26] (fun i wr => ∃ k : Nat, k ≤ s.length ∧ i = .int .i64 (k : Nat) ∧ Hid (Below W2.heap.size W2 wr)) (fun i _ => s.length - (intOf i).toNat)
  case atStart => exact ⟨0, Nat.zero_le _, rfl, hid (Below.refl _ _)⟩
  case round =>
    obtain ⟨k, hk, rfl, Hb⟩ := hrel
    have Hbw := hid (bel_go Hb.out HBw.out)
    obtain ⟨z0, z1, y0, y1⟩ := HZ.out wr Hb.out
    by_cases hlt : k < s.length
    · have hlt' : (k : Int) < (s.length : Nat) := by omega
      obtain ⟨bb, off, rfl, j1, j2⟩ := Hi.out (by omega)
      obtain ⟨bc, off', rfl, o1, o2⟩ := Hk.out (by omega)
      obtain ⟨m0, m1, m2⟩ := j2 k hlt
      obtain ⟨n0, n1, n2⟩ := o2 k hlt
      have m0 := (Hbw.out.cell (p := ⟨bb, off + k * 3, none⟩) j1).trans m0
      have m1 := (Hbw.out.cell (p := ⟨bb, off + k * 3 + 1, none⟩) j1).trans m1
      have m2 := (Hbw.out.cell (p := ⟨bb, off + k * 3 + 2, none⟩) j1).trans m2
      have n0 := (Hbw.out.cell (p := ⟨bc, off' + k * 3, none⟩) o1).trans n0
      have n1 := (Hbw.out.cell (p := ⟨bc, off' + k * 3 + 1, none⟩) o1).trans n1
      have n2 := (Hbw.out.cell (p := ⟨bc, off' + k * 3 + 2, none⟩) o1).trans n2
      generalize s[k].name = nm at *
      generalize s[k].arity = ar at *
      generalize s[k].sort = so at *
      clear j2 o2 Hi Hk
      go_wp2_with fail
      go_quiet (fail)
      go_wp2
      go_roundw
      case rel => exact ⟨k + 1, by omega, rfl, hid (below_drewN Hb.out _)⟩
      case measure => simp [intOf]; omega
    · have hkk : k = s.length := by omega
      subst hkk
      go_wp2_with fail
      clear z0 z1 y0 y1
      go_loopw [44] (fun i wr => ∃ k : Nat, k ≤ l.length ∧ i = .int .i64 (k : Nat) ∧ Hid (Below W2.heap.size W2 wr)) (fun i _ => l.length - (intOf i).toNat)
      case atStart => exact ⟨0, Nat.zero_le _, rfl, Hb⟩
      case round =>
      clear Hb Hbw
      obtain ⟨k, hk, rfl, Hb⟩ := hrel
      have Hbw := hid (bel_go Hb.out HBw.out)
      by_cases hlt : k < l.length
      case neg =>
        have hkk : k = l.length := by omega
        subst hkk
        go_wp2_with fail
        go_ret
        exact ⟨rfl, Hbw.out⟩
      case pos =>
      have hlt' : (k : Int) < (l.length : Nat) := by omega
      obtain ⟨_, _, e5, -, -, -, hc⟩ := Hta.out
      obtain ⟨_, _, e6, -, -, -, hd⟩ := Htb.out
      cases e5; cases e6
      obtain ⟨bb, off, rfl, j1, j2⟩ := hc (by omega)
      obtain ⟨bc, off', rfl, o1, o2⟩ := hd (by omega)
      obtain ⟨c0, c1, c2, c3, c4, m0, m1, m2, m3, m4, hra⟩ := j2 k hlt
      obtain ⟨d0, d1, d2', d3, d4, n0, n1, n2, n3, n4, hrb⟩ := o2 k hlt
      have hszx := Hsz.out l[k] (List.getElem_mem hlt)
      generalize l[k] = x at *
      have hsame := fun W (hw : Below wr.heap.size wr W) => RefSame_any x x _ _ W (hra.below (bel_go hw Hbw.out)) (hrb.below (bel_go hw Hbw.out)) hszx hszx
      obtain ⟨pe, ce, b, pm, nm, cm, ea, -, -⟩ := hra
      have ea' := agg5 ea
      obtain ⟨rfl, rfl, rfl, rfl, rfl⟩ := ea'
      obtain ⟨pe', ce', b', pm', nm', cm', eb, -, -⟩ := hrb
      have eb' := agg5 eb
      obtain ⟨rfl, rfl, rfl, rfl, rfl⟩ := eb'
      have Hsame := hid hsame
      have HS : Hid (∀ w', Below wr.heap.size wr w' → (w'.cell? ⟨w.heap.size, 0, none⟩ = some (.slice pa l.length ca) ∨ True) ∧ w'.cell? ⟨w.heap.size, 1, none⟩ = some (.slice (some ⟨bb, off, none⟩) l.length cb) ∧ w'.cell? ⟨w.heap.size + 1, 1, none⟩ = some (.slice (some ⟨bc, off', none⟩) l.length cd) ∧
          (w'.cell? ⟨bb, off + k * 5, none⟩ = some (.int .i64 x.op) ∧ w'.cell? ⟨bb, off + k * 5 + 1, none⟩ = some (.slice pe x.args.length ce) ∧ w'.cell? ⟨bb, off + k * 5 + 2, none⟩ = some (.bool b) ∧ w'.cell? ⟨bb, off + k * 5 + 3, none⟩ = some (.slice pm nm cm) ∧ w'.cell? ⟨bb, off + k * 5 + 4, none⟩ = some (.int .i64 x.sym)) ∧
          (w'.cell? ⟨bc, off' + k * 5, none⟩ = some (.int .i64 x.op) ∧ w'.cell? ⟨bc, off' + k * 5 + 1, none⟩ = some (.slice pe' x.args.length ce') ∧ w'.cell? ⟨bc, off' + k * 5 + 2, none⟩ = some (.bool b') ∧ w'.cell? ⟨bc, off' + k * 5 + 3, none⟩ = some (.slice pm' nm' cm') ∧ w'.cell? ⟨bc, off' + k * 5 + 4, none⟩ = some (.int .i64 x.sym))) := hid fun w' hb => by
        have h1 := bel_go hb Hbw.out
        have h2 := HZ.out w' (bel_go hb Hb.out)
        have ca' : ∀ o, w'.cell? ⟨bb, o, none⟩ = w.cell? ⟨bb, o, none⟩ := fun o => h1.cell (p := ⟨bb, o, none⟩) j1
        have cb' : ∀ o, w'.cell? ⟨bc, o, none⟩ = w.cell? ⟨bc, o, none⟩ := fun o => h1.cell (p := ⟨bc, o, none⟩) o1
        exact ⟨.inr trivial, h2.2.1, h2.2.2.2, ⟨(ca' _).trans m0, (ca' _).trans m1, (ca' _).trans m2, (ca' _).trans m3, (ca' _).trans m4⟩, ⟨(cb' _).trans n0, (cb' _).trans n1, (cb' _).trans n2, (cb' _).trans n3, (cb' _).trans n4⟩⟩
      clear hc hd j2 o2 m0 m1 m2 m3 m4 n0 n1 n2 n3 n4 hsame hszx ea eb Hta Htb Hi Hk Hsz
      go_upto_region 12 with fail
      refine wp_region_facts (w0 := wr) 12 0 [47, 48, 49, 50, 51, 52, 53, 54, 55, 56, 57, 58] [u47, u48, u49, u50, u51, u52, u53, u54, u55, u56, u57, u58]
        (fun i => match i with | 0 => eqD (.pointer (some ⟨w.heap.size, 1, none⟩)) | 1 => eqD (.slice (some ⟨bb, off, none⟩) l.length cb) | 2 => eqD (.int .i64 (k : Nat)) | 3 => eqD (.pointer (some ⟨bb, off + k * 5, none⟩)) | 4 => eqD (.agg #[.int .i64 x.op, .slice pe x.args.length ce, .bool b, .slice pm nm cm, .int .i64 x.sym]) | 5 => eqD (.pointer (some ⟨w.heap.size + 1, 1, none⟩)) | 6 => eqD (.slice (some ⟨bc, off', none⟩) l.length cd) | 7 => eqD (.int .i64 (k : Nat)) | 8 => eqD (.pointer (some ⟨bc, off' + k * 5, none⟩)) | 9 => eqD (.agg #[.int .i64 x.op, .slice pe' x.args.length ce', .bool b', .slice pm' nm' cm', .int .i64 x.sym]) | 10 => eqD (.bool true) | _ => eqD (.bool false)) [] (by kernel_rfl) (by kernel_rfl) (by kernel_rfl) (by kernel_rfl) (by decide) rfl (by kernel_rfl) rfl (by simp) ?he1 ?_ ?_ ?_
      case he1 => simp only [putAll, Act.put, List.setIfInBounds_toArray, List.set_cons_zero, List.set_cons_succ]
      · intro i hi; simp at hi
      · intro i o hi ho vs wx hvl hb hdep K hK
        have hvs := vlen12 hvl
        obtain ⟨s47, s48, s49, s50, s51, s52, s53, s54, s55, s56, s57, s58, rfl⟩ := hvs
        clear hvl
        have hk := HS.out wx hb
        go_split_ands
        rcases i with _ | _ | _ | _ | _ | _ | _ | _ | _ | _ | _ | _ | i
        all_goals (simp only [List.getElem?_toArray, List.getElem?_cons_zero, List.getElem?_cons_succ, Option.some.injEq] at ho)
        all_goals try (subst ho)
        all_goals try simp only [putAll, Act.put, List.setIfInBounds_toArray, List.set_cons_zero, List.set_cons_succ]
        · go_simp
          have hK' := hK.out
          simp only [putAll, Act.put, List.setIfInBounds_toArray, List.set_cons_zero, List.set_cons_succ] at hK'
          exact hK' _ _ rfl (Below.refl _ _) (by simp)
        · have e0 : s47 = _ := hdep ⟨0, .data⟩ (by simp) rfl
          have e0 := e0.symm
          subst e0
          go_simp
          have hK' := hK.out
          simp only [putAll, Act.put, List.setIfInBounds_toArray, List.set_cons_zero, List.set_cons_succ] at hK'
          exact hK' _ _ rfl (Below.refl _ _) (by simp)
        · go_simp
          have hK' := hK.out
          simp only [putAll, Act.put, List.setIfInBounds_toArray, List.set_cons_zero, List.set_cons_succ] at hK'
          exact hK' _ _ rfl (Below.refl _ _) (by simp)
        · have e1 : s48 = _ := hdep ⟨1, .data⟩ (by simp) rfl
          have e1 := e1.symm
          subst e1
          have e2 : s49 = _ := hdep ⟨2, .data⟩ (by simp) rfl
          have e2 := e2.symm
          subst e2
          go_simp
          have hK' := hK.out
          simp only [putAll, Act.put, List.setIfInBounds_toArray, List.set_cons_zero, List.set_cons_succ] at hK'
          exact hK' _ _ rfl (Below.refl _ _) (by simp)
        · have e3 : s50 = _ := hdep ⟨3, .data⟩ (by simp) rfl
          have e3 := e3.symm
          subst e3
          go_simp
          have hK' := hK.out
          simp only [putAll, Act.put, List.setIfInBounds_toArray, List.set_cons_zero, List.set_cons_succ] at hK'
          exact hK' _ _ rfl (Below.refl _ _) (by simp)
        · go_simp
          have hK' := hK.out
          simp only [putAll, Act.put, List.setIfInBounds_toArray, List.set_cons_zero, List.set_cons_succ] at hK'
          exact hK' _ _ rfl (Below.refl _ _) (by simp)
        · have e5 : s52 = _ := hdep ⟨5, .data⟩ (by simp) rfl
          have e5 := e5.symm
          subst e5
          go_simp
          have hK' := hK.out
          simp only [putAll, Act.put, List.setIfInBounds_toArray, List.set_cons_zero, List.set_cons_succ] at hK'
          exact hK' _ _ rfl (Below.refl _ _) (by simp)
        · go_simp
          have hK' := hK.out
          simp only [putAll, Act.put, List.setIfInBounds_toArray, List.set_cons_zero, List.set_cons_succ] at hK'
          exact hK' _ _ rfl (Below.refl _ _) (by simp)
        · have e6 : s53 = _ := hdep ⟨6, .data⟩ (by simp) rfl
          have e6 := e6.symm
          subst e6
          have e7 : s54 = _ := hdep ⟨7, .data⟩ (by simp) rfl
          have e7 := e7.symm
          subst e7
          go_simp
          have hK' := hK.out
          simp only [putAll, Act.put, List.setIfInBounds_toArray, List.set_cons_zero, List.set_cons_succ] at hK'
          exact hK' _ _ rfl (Below.refl _ _) (by simp)
        · have e8 : s55 = _ := hdep ⟨8, .data⟩ (by simp) rfl
          have e8 := e8.symm
          subst e8
          go_simp
          have hK' := hK.out
          simp only [putAll, Act.put, List.setIfInBounds_toArray, List.set_cons_zero, List.set_cons_succ] at hK'
          exact hK' _ _ rfl (Below.refl _ _) (by simp)
        · have e4 : s51 = _ := hdep ⟨4, .data⟩ (by simp) rfl
          have e4 := e4.symm
          subst e4
          have e9 : s56 = _ := hdep ⟨9, .data⟩ (by simp) rfl
          have e9 := e9.symm
          subst e9
          go_simp
          go_simp
          refine (Hsame.out _ hb).mono ?_
          rintro e wy ⟨rfl, hby⟩
          go_wp2_with fail
          have hK' := hK.out
          simp only [putAll, Act.put, List.setIfInBounds_toArray, List.set_cons_zero, List.set_cons_succ] at hK'
          exact hK' _ _ rfl hby (by simp)
        · have e10 : s57 = _ := hdep ⟨10, .data⟩ (by simp) rfl
          have e10 := e10.symm
          subst e10
          go_simp
          have hK' := hK.out
          simp only [putAll, Act.put, List.setIfInBounds_toArray, List.set_cons_zero, List.set_cons_succ] at hK'
          exact hK' _ _ rfl (Below.refl _ _) (by simp)
        · omega
      · intro vs wx hvl hb hf hdist
        have hvs := vlen12 hvl
        obtain ⟨s47, s48, s49, s50, s51, s52, s53, s54, s55, s56, s57, s58, rfl⟩ := hvs
        have f11 : s58 = .bool false := hf 11 (by decide)
        subst f11
        clear hf hdist hvl
        refine wpAny_done (by kernel_rfl) ?_ _
        simp only [putAll, Act.put, List.setIfInBounds_toArray, List.set_cons_zero, List.set_cons_succ]
        have Hb9 := hid (Hb.out.trans (hb.mono Hb.out.size))
        clear Hb Hbw hb HS
        go_wp2_with fail
        go_roundw
        case rel => exact ⟨k + 1, by omega, rfl, Hb9⟩
        case measure => simp [intOf]; omega
end Go.Proofs.YthheafjilbeddaaDoor
/- A number that comes in as data: a bool and a slice of words; how it reads. -/
namespace Go.Proofs.YthheafjilbeddaaDoor
open Go.ChangeShapes Go.WideShapes Go.ChangeAt Go.RowKit Go.Deep Go.Joins Big

theorem laidOut : laidOutB Tryd.prog = true := by kernel_rfl
theorem fieldsInt : ∃ f0 f1 : Field, Tryd.prog.underlying 37 = some (.struct #[f0, f1]) ∧ oneCellFields Tryd.prog #[f0, f1] = true ∧ f0.type = 4 ∧ f1.type = 35 := ⟨_, _, Tryd.underlying37, by kernel_rfl, rfl, rfl⟩
theorem cellsInt : Tryd.prog.cellsOf 37 = 2 := by kernel_rfl
theorem cellsU64 : Tryd.prog.cellsOf 98 = 1 := by kernel_rfl

section
variable {H : Type} {enc : TypeId × Value → H} {w : World} {base : Nat} {spare : Nat → Bool} {held : Bool}
theorem wf_u64 {n : Int} (h : (Lit.int .u64 n).wf = true) : 0 ≤ n ∧ n < (W : Int) := by
  have h' : (decide (IntKind.u64.min ≤ n) && decide (n ≤ IntKind.u64.max)) = true := h
  have e1 : IntKind.u64.min = 0 := by decide
  have e2 : IntKind.u64.max = 18446744073709551615 := by decide
  rw [e1, e2] at h'
  simp only [Bool.and_eq_true, decide_eq_true_eq] at h'
  unfold W
  omega
/-- a slice of words that comes in -/
theorem open_nat {fuel : Nat} {v : Value} {y : DataW H × List MemPlace} (h : DataW.trod enc Tryd.prog w base spare held fuel 35 [v] = some y) : ∃ l, At w .u64 v l ∧ Small W l := by
  rcases open_ints Tryd.underlying35 Tryd.underlying98 cellsU64 h with ⟨hv, -⟩ | ⟨a, len, cap, zs, hv, hb, hl, hm, hz, -, hc, hwf⟩
  · obtain rfl : v = .slice none 0 0 := by simpa using hv
    exact ⟨[], At.nil w .u64, fun n hn => by cases hn⟩
  · obtain rfl : v = .slice (some a) len cap := by simpa using hv
    have hlz : len ≤ zs.length := by rw [hz]; split <;> omega
    refine ⟨(zs.take len).map Int.toNat, ?_, ?_⟩
    · have e : ((zs.take len).map Int.toNat).length = len := by simp [Nat.min_eq_left hlz]
      refine ⟨some a, cap, by rw [e], by rw [e]; exact hl, hm, nofun, fun h0 => ?_⟩
      rw [e] at h0
      have hs := hc 0 (by omega)
      obtain ⟨b, off, spot⟩ := a
      cases spot with
      | some x =>
        exfalso
        revert hs
        unfold World.cell? Addr.add
        split <;> simp
      | none =>
        refine ⟨b, off, rfl, ?_, fun i hi => ?_⟩
        · exact World.block_lt_of_cell? w _ hs
        · rw [e] at hi
          have hci := hc i (by omega)
          have hw := wf_u64 (hwf _ (List.getElem_mem (n := i) (l := zs) (by omega)))
          rw [add_plain] at hci
          rw [hci]
          have hg : zs.getD i 0 = zs[i]'(by omega) := by simp [List.getD, show i < zs.length by omega]
          rw [hg]
          simp only [List.getElem_map, List.getElem_take]
          congr 2
          omega
    · intro n hn
      obtain ⟨x, hx, rfl⟩ := List.mem_map.1 hn
      have hw := wf_u64 (hwf x (List.mem_of_mem_take hx))
      omega
set_option maxRecDepth 100000 in
/-- a number that comes in -/
theorem open_num {r : Reach} {b0 : Nat} {v : Value} {d : DataW H} {p : List MemPlace} (hv : Value.okWide Tryd.prog w r b0 37 v) (h : DataW.Trod enc Tryd.prog w base spare held 37 v d p) :
    ∃ neg s l, v = .agg #[.bool neg, s] ∧ At w .u64 s l ∧ Small W l := by
  obtain ⟨f0, f1, hs, hone, e0, e1⟩ := fieldsInt
  obtain ⟨v0, v1, y0, y1, n, rfl, -, -, h0, h1⟩ := open_agg2 hs hone cellsInt hv h
  rw [e0] at h0
  rw [e1] at h1
  obtain ⟨b, hb, -⟩ := DataW.trod_bool Tryd.underlying4 h0
  obtain ⟨l, ha, hl⟩ := open_nat h1
  obtain rfl : v0 = .bool b := by simpa using hb
  exact ⟨b, v1, l, rfl, ha, hl⟩
end
end Go.Proofs.YthheafjilbeddaaDoor
/- Terms and symbols that come in as data: how they read. -/
namespace Go.Proofs.YthheafjilbeddaaDoor
open Go.ChangeShapes Go.WideShapes Go.ChangeAt Go.RowKit Go.Deep Go.Joins Big

/-- a term as it comes in: its number by sign and words -/
structure Tx where
  op : Int
  args : List Int
  neg : Bool
  words : List Nat
  sym : Int
def Tx.tm (x : Tx) : Tm := ⟨x.op, x.args, sg x.neg (val W x.words), x.sym⟩
def TxAt (w : World) (v : Value) (x : Tx) : Prop := ∃ pa ca pm cm, v = .agg #[.int .i64 x.op, .slice pa x.args.length ca, .bool x.neg, .slice pm x.words.length cm, .int .i64 x.sym] ∧
  IAt w (.slice pa x.args.length ca) x.args ∧ At w .u64 (.slice pm x.words.length cm) x.words ∧ Small W x.words
theorem TxAt.raw {w : World} {v : Value} {x : Tx} (h : TxAt w v x) (hs : x.words.length ≤ 1099511627776) : TmRaw w v x.tm := by
  obtain ⟨pa, ca, pm, cm, rfl, h1, h2, h3⟩ := h
  exact ⟨pa, ca, _, pm, _, cm, rfl, h1, _, _, _, rfl, h2, h3, hs, rfl⟩
theorem TxAt.below {w w' : World} {v : Value} {x : Tx} (h : TxAt w v x) (hb : Below w.heap.size w w') : TxAt w' v x := by
  obtain ⟨pa, ca, pm, cm, rfl, h1, h2, h3⟩ := h
  exact ⟨pa, ca, pm, cm, rfl, h1.below hb, h2.below hb, h3⟩
theorem laidOutP : laidOutB Tryd.prog = true := by kernel_rfl
theorem ownP : ownKnob Tryd.prog.godebug = none := by kernel_rfl
theorem fieldsTerm : ∃ f0 f1 f2 f3 : Field, Tryd.prog.underlying 39 = some (.struct #[f0, f1, f2, f3]) ∧ f0.type = 3 ∧ f1.type = 33 ∧ f2.type = 37 ∧ f3.type = 3 ∧ f0.offset = 0 ∧ f1.offset = 1 ∧ f2.offset = 2 ∧ f3.offset = 4 :=
  ⟨_, _, _, _, Tryd.underlying39, rfl, rfl, rfl, rfl, rfl, rfl, rfl, rfl⟩
theorem fieldsSym : ∃ f0 f1 f2 : Field, Tryd.prog.underlying 51 = some (.struct #[f0, f1, f2]) ∧ f0.type = 9 ∧ f1.type = 3 ∧ f2.type = 3 ∧ f0.offset = 0 ∧ f1.offset = 1 ∧ f2.offset = 2 :=
  ⟨_, _, _, Tryd.underlying51, rfl, rfl, rfl, rfl, rfl, rfl⟩
theorem fieldsIntP : ∃ f0 f1 : Field, Tryd.prog.underlying 37 = some (.struct #[f0, f1]) ∧ f0.type = 4 ∧ f1.type = 35 ∧ f0.offset = 0 ∧ f1.offset = 1 := ⟨_, _, Tryd.underlying37, rfl, rfl, rfl, rfl⟩
theorem cellsTermP : Tryd.prog.cellsOf 39 = 5 := by kernel_rfl
theorem cellsSymP : Tryd.prog.cellsOf 51 = 3 := by kernel_rfl
theorem cellsIntP : Tryd.prog.cellsOf 37 = 2 := by kernel_rfl
theorem cellsNatP : Tryd.prog.cellsOf 35 = 1 := by kernel_rfl
theorem cellsBoolP : Tryd.prog.cellsOf 4 = 1 := by kernel_rfl
theorem cellsIP : Tryd.prog.cellsOf 3 = 1 := by kernel_rfl
theorem cellsSP : Tryd.prog.cellsOf 9 = 1 := by kernel_rfl
theorem cellsIsP : Tryd.prog.cellsOf 33 = 1 := by kernel_rfl
def dataOf {H : Type} : DataW H → List (DataW H)
  | .slice e _ => e
  | _ => []
section
variable {H : Type} {enc : TypeId × Value → H} {w : World} {base : Nat} {spare : Nat → Bool} {held : Bool}
theorem spotless {b off : Nat} {sp : Option _} {v : Value} (h : w.cell? ((⟨b, off, sp⟩ : Addr)) = some v) : sp = none := by
  cases sp with
  | none => rfl
  | some x =>
    exfalso
    revert h
    unfold World.cell?
    split <;> simp
theorem cells_each {a : Addr} {n : Nat} {cs : List Value} (h : w.cells? base a n = some cs) : cs.length = n ∧ ∀ j u, cs[j]? = some u → w.cell? (a.add j) = some u := by
  unfold World.cells? at h
  split at h
  · have hl := mapM_some_length h
    simp at hl
    refine ⟨hl, fun j u hj => ?_⟩
    have hjl : j < n := by
      have := (List.getElem?_eq_some_iff.1 hj).1
      omega
    have := mapM_some_get h j j (by simp [hjl])
    rw [this, hj]
  · cases h
/-- a row of structs that comes in -/
theorem open_rows {α : Type} {t e : TypeId} (size : Nat) (ht : Tryd.prog.underlying t = some (.slice e)) (hsz : Tryd.prog.cellsOf e = size) (hpos : 0 < size) {Q : List Value → α → DataW H → Prop}
    (each : ∀ m cs y, DataW.trod enc Tryd.prog w base spare held m e cs = some y → ∃ x : α, Q cs x y.1) {fuel : Nat} {cs : List Value} {y : DataW H × List MemPlace} (h : DataW.trod enc Tryd.prog w base spare held fuel t cs = some y) :
    ∃ (p : Option Addr) (cap : Nat) (l : List α), cs = [.slice p l.length cap] ∧ l.length ≤ cap ∧ cap ≤ maxLen ∧ (p = none → cap = 0) ∧
      (0 < l.length → ∃ b off, p = some ⟨b, off, none⟩ ∧ b < w.heap.size ∧ ∀ i (h : i < l.length), ∃ c d, c.length = size ∧ (∀ j u, c[j]? = some u → w.cell? ⟨b, off + i * size + j, none⟩ = some u) ∧ Q c l[i] d ∧ d ∈ dataOf y.1) := by
  rcases DataW.trod_slice ht h with ⟨rfl, -⟩ | ⟨a, len, cap, elems, rest, m, rfl, rfl, rfl, hb, hl, hm, hel, hget, -, -⟩
  · exact ⟨none, 0, [], rfl, by simp, by simp [maxLen], fun _ => rfl, fun h => absurd h (by simp)⟩
  · rw [hsz] at hget
    have hone : ∀ i : Fin len, ∃ x : α, ∃ c d, c.length = size ∧ (∀ j u, c[j]? = some u → w.cell? ((a.add (i.1 * size)).add j) = some u) ∧ Q c x d ∧ d ∈ elems.map (·.1) := fun i => by
      have hg := hget i.1 i.2
      have hil : i.1 < elems.length := by omega
      rw [List.getElem?_eq_getElem hil] at hg
      obtain ⟨ci, h1, h2⟩ := Option.bind_eq_some_iff.1 hg
      obtain ⟨x, hx⟩ := each m ci _ h2
      obtain ⟨k1, k2⟩ := cells_each h1
      exact ⟨x, ci, _, k1, k2, hx, List.mem_map.2 ⟨_, List.getElem_mem hil, rfl⟩⟩
    obtain ⟨f, hf⟩ := Classical.axiomOfChoice hone
    have hll : (List.ofFn f).length = len := by simp
    refine ⟨some a, cap, List.ofFn f, by rw [hll], by rw [hll]; exact hl, hm, fun e => by (cases e), fun h0 => ?_⟩
    rw [hll] at h0
    obtain ⟨b, off, sp⟩ := a
    have hsp : sp = none := by
      obtain ⟨c, d, k1, k2, -⟩ := hf ⟨0, h0⟩
      have := k2 0 (c[0]'(by omega)) (by simp)
      simp only [Nat.zero_mul, Addr.add] at this
      exact spotless this
    subst hsp
    have hbl : b < w.heap.size := by
      obtain ⟨c, d, k1, k2, -⟩ := hf ⟨0, h0⟩
      have := k2 0 (c[0]'(by omega)) (by simp)
      exact World.block_lt_of_cell? w _ (by simpa only [add_plain] using this)
    refine ⟨b, off, rfl, hbl, fun i hi => ?_⟩
    rw [hll] at hi
    obtain ⟨c, d, k1, k2, k3, k4⟩ := hf ⟨i, hi⟩
    exact ⟨c, d, k1, fun j u hj => by have := k2 j u hj; simpa only [add_plain] using this, by rw [List.getElem_ofFn]; exact k3, k4⟩
/-- a slice of ints that comes in -/
theorem open_iat {fuel : Nat} {v : Value} {y : DataW H × List MemPlace} (h : DataW.trod enc Tryd.prog w base spare held fuel 33 [v] = some y) : ∃ p l cap, v = .slice p l.length cap ∧ IAt w (.slice p l.length cap) l := by
  obtain ⟨p, cap, l, hcs, h1, h2, h3, h4⟩ := open_rows (α := Int) (Q := fun cs x _ => cs = [.int .i64 x]) 1 Tryd.underlying33 cellsIP (by decide) (fun m cs y hy => by
    obtain ⟨n, g, -, -⟩ := DataW.trod_int Tryd.underlying3 hy
    exact ⟨n, g⟩) h
  injection hcs with hcs _
  refine ⟨p, l, cap, hcs, p, cap, rfl, h1, h2, h3, fun h0 => ?_⟩
  obtain ⟨b, off, e, hb, hc⟩ := h4 h0
  refine ⟨b, off, e, hb, fun i hi => ?_⟩
  obtain ⟨c, d, -, k, rfl, -⟩ := hc i hi
  have := k 0 _ rfl
  simpa using this
set_option maxRecDepth 100000 in
theorem open_tx {fuel : Nat} {cs : List Value} {y : DataW H × List MemPlace} (h : DataW.trod enc Tryd.prog w base spare held fuel 39 cs = some y) :
    ∃ x : Tx, ∃ c0 c1 c2 c3 c4, cs = [c0, c1, c2, c3, c4] ∧ TxAt w (.agg #[c0, c1, c2, c3, c4]) x := by
  obtain ⟨f0, f1, f2, f3, hs, e0, e1, e2, e3, o0, o1, o2, o3⟩ := fieldsTerm
  obtain ⟨xs, n, rfl, rfl, hl, hlen, hf⟩ := DataW.trod_struct hs h
  rw [cellsTermP] at hl
  match cs, hl, xs, hlen with
  | [c0, c1, c2, c3, c4], _, [y0, y1, y2, y3], _ =>
    have h0 := hf 0 f0 rfl
    have h1 := hf 1 f1 rfl
    have h2 := hf 2 f2 rfl
    have h3 := hf 3 f3 rfl
    rw [e0, o0, cellsIP] at h0
    rw [e1, o1, cellsIsP] at h1
    rw [e2, o2, cellsIntP] at h2
    rw [e3, o3, cellsIP] at h3
    obtain ⟨k, g0, -, -⟩ := DataW.trod_int Tryd.underlying3 (show DataW.trod enc Tryd.prog w base spare held n 3 [c0] = some y0 from h0)
    obtain ⟨p, l, cap, g1, hi⟩ := open_iat (show DataW.trod enc Tryd.prog w base spare held n 33 [c1] = some y1 from h1)
    obtain ⟨s, g3, -, -⟩ := DataW.trod_int Tryd.underlying3 (show DataW.trod enc Tryd.prog w base spare held n 3 [c4] = some y3 from h3)
    obtain ⟨i0, i1, hsi, ei0, ei1, oi0, oi1⟩ := fieldsIntP
    obtain ⟨zs, m, -, -, -, hzl, hzf⟩ := DataW.trod_struct hsi (show DataW.trod enc Tryd.prog w base spare held n 37 [c2, c3] = some y2 from h2)
    match zs, hzl with
    | [z0, z1], _ =>
      have k0 := hzf 0 i0 rfl
      have k1 := hzf 1 i1 rfl
      rw [ei0, oi0, cellsBoolP] at k0
      rw [ei1, oi1, cellsNatP] at k1
      obtain ⟨b, gb, -⟩ := DataW.trod_bool Tryd.underlying4 (show DataW.trod enc Tryd.prog w base spare held m 4 [c2] = some z0 from k0)
      obtain ⟨ws, hw, hsm⟩ := open_nat (show DataW.trod enc Tryd.prog w base spare held m 35 [c3] = some z1 from k1)
      injection g0 with g0 _; injection g3 with g3 _; injection gb with gb _
      subst g0 g1 g3 gb
      obtain ⟨pm, cm, rfl, r⟩ := hw
      exact ⟨⟨k, l, b, ws, s⟩, _, _, _, _, _, rfl, p, cap, pm, cm, rfl, hi, ⟨pm, cm, rfl, r⟩, hsm⟩
set_option maxRecDepth 100000 in
theorem open_sy {fuel : Nat} {cs : List Value} {y : DataW H × List MemPlace} (h : DataW.trod enc Tryd.prog w base spare held fuel 51 cs = some y) :
    ∃ s : Sy, cs = s.cells ∧ ∃ r, y.1 = .agg (.lit (.string s.name) :: r) := by
  obtain ⟨f0, f1, f2, hs, e0, e1, e2, o0, o1, o2⟩ := fieldsSym
  obtain ⟨xs, n, rfl, rfl, hl, hlen, hf⟩ := DataW.trod_struct hs h
  rw [cellsSymP] at hl
  match cs, hl, xs, hlen with
  | [c0, c1, c2], _, [y0, y1, y2], _ =>
    have h0 := hf 0 f0 rfl
    have h1 := hf 1 f1 rfl
    have h2 := hf 2 f2 rfl
    rw [e0, o0, cellsSP] at h0
    rw [e1, o1, cellsIP] at h1
    rw [e2, o2, cellsIP] at h2
    obtain ⟨t, g0, gy, -⟩ := DataW.trod_string Tryd.underlying9 (show DataW.trod enc Tryd.prog w base spare held n 9 [c0] = some y0 from h0)
    obtain ⟨a, g1, -, -⟩ := DataW.trod_int Tryd.underlying3 (show DataW.trod enc Tryd.prog w base spare held n 3 [c1] = some y1 from h1)
    obtain ⟨s, g2, -, -⟩ := DataW.trod_int Tryd.underlying3 (show DataW.trod enc Tryd.prog w base spare held n 3 [c2] = some y2 from h2)
    injection g0 with g0 _; injection g1 with g1 _; injection g2 with g2 _
    subst g0 g1 g2
    exact ⟨⟨t.data.toList, a, s⟩, rfl, _, by rw [gy]; rfl⟩
set_option maxRecDepth 100000 in
/-- a term by value -/
theorem open_term {r : Reach} {b0 : Nat} {v : Value} {d : DataW H} {p : List MemPlace} (hv : Value.okWide Tryd.prog w r b0 39 v) (h : DataW.Trod enc Tryd.prog w base spare held 39 v d p) : ∃ x, TxAt w v x := by
  obtain ⟨f0, f1, f2, f3, hs, -⟩ := fieldsTerm
  obtain ⟨cs, rfl, hsz⟩ := okWide_struct hs hv
  obtain ⟨fuel, hf⟩ := h
  obtain ⟨x, c0, c1, c2, c3, c4, hcs, hx⟩ := open_tx hf
  obtain ⟨l⟩ := cs
  have : l = [c0, c1, c2, c3, c4] := by simpa [Value.cells] using hcs
  exact ⟨x, by rw [this]; exact hx⟩
set_option maxRecDepth 100000 in
/-- a symbol by value -/
theorem open_sym {r : Reach} {b0 : Nat} {v : Value} {d : DataW H} {p : List MemPlace} (hv : Value.okWide Tryd.prog w r b0 51 v) (h : DataW.Trod enc Tryd.prog w base spare held 51 v d p) : ∃ s : Sy, v = s.val := by
  obtain ⟨f0, f1, f2, hs, -⟩ := fieldsSym
  obtain ⟨cs, rfl, hsz⟩ := okWide_struct hs hv
  obtain ⟨fuel, hf⟩ := h
  obtain ⟨s, hcs, -⟩ := open_sy hf
  obtain ⟨l⟩ := cs
  have : l = s.cells := by simpa [Value.cells] using hcs
  exact ⟨s, by rw [this]; rfl⟩
/-- terms that come in -/
def TxsIn (w : World) (v : Value) (l : List Tx) : Prop :=
  ∃ p cap, v = .slice p l.length cap ∧ l.length ≤ cap ∧ cap ≤ maxLen ∧ (p = none → cap = 0) ∧
    (0 < l.length → ∃ b off, p = some ⟨b, off, none⟩ ∧ b < w.heap.size ∧ ∀ i (h : i < l.length), ∃ c0 c1 c2 c3 c4, w.cell? ⟨b, off + i * 5, none⟩ = some c0 ∧ w.cell? ⟨b, off + i * 5 + 1, none⟩ = some c1 ∧ w.cell? ⟨b, off + i * 5 + 2, none⟩ = some c2 ∧ w.cell? ⟨b, off + i * 5 + 3, none⟩ = some c3 ∧ w.cell? ⟨b, off + i * 5 + 4, none⟩ = some c4 ∧
      TxAt w (.agg #[c0, c1, c2, c3, c4]) l[i])
theorem TxsIn.tms {v : Value} {l : List Tx} (h : TxsIn w v l) (hs : ∀ x ∈ l, x.words.length ≤ 1099511627776) : TmsIn w v (l.map Tx.tm) := by
  obtain ⟨p, cap, rfl, h1, h2, h3, h4⟩ := h
  refine ⟨p, cap, by rw [List.length_map], by rw [List.length_map]; exact h1, h2, h3, fun h0 => ?_⟩
  rw [List.length_map] at h0
  obtain ⟨b, off, e, hb, hc⟩ := h4 h0
  refine ⟨b, off, e, hb, fun i hi => ?_⟩
  rw [List.length_map] at hi
  obtain ⟨c0, c1, c2, c3, c4, k0, k1, k2, k3, k4, hx⟩ := hc i hi
  exact ⟨c0, c1, c2, c3, c4, k0, k1, k2, k3, k4, by rw [List.getElem_map]; exact hx.raw (hs _ (List.getElem_mem hi))⟩
theorem open_txs {fuel : Nat} {cs : List Value} {y : DataW H × List MemPlace} (h : DataW.trod enc Tryd.prog w base spare held fuel 23 cs = some y) : ∃ v l, cs = [v] ∧ TxsIn w v l := by
  obtain ⟨p, cap, l, hcs, h1, h2, h3, h4⟩ := open_rows (α := Tx) (Q := fun cs x _ => ∃ c0 c1 c2 c3 c4, cs = [c0, c1, c2, c3, c4] ∧ TxAt w (.agg #[c0, c1, c2, c3, c4]) x) 5 Tryd.underlying23 cellsTermP (by decide) (fun m cs y hy => open_tx hy) h
  refine ⟨_, l, hcs, p, cap, rfl, h1, h2, h3, fun h0 => ?_⟩
  obtain ⟨b, off, e, hb, hc⟩ := h4 h0
  refine ⟨b, off, e, hb, fun i hi => ?_⟩
  obtain ⟨c, d, -, k, ⟨c0, c1, c2, c3, c4, rfl, hx⟩, -⟩ := hc i hi
  exact ⟨c0, c1, c2, c3, c4, k 0 _ rfl, k 1 _ rfl, k 2 _ rfl, k 3 _ rfl, k 4 _ rfl, hx⟩
theorem open_sys {fuel : Nat} {cs : List Value} {y : DataW H × List MemPlace} (h : DataW.trod enc Tryd.prog w base spare held fuel 22 cs = some y) :
    ∃ v l, cs = [v] ∧ SyIn w v l ∧ ∀ s ∈ l, ∃ r, DataW.agg (.lit (.string s.name) :: r) ∈ dataOf y.1 := by
  obtain ⟨p, cap, l, hcs, h1, h2, h3, h4⟩ := open_rows (α := Sy) (Q := fun cs s d => cs = s.cells ∧ ∃ r, d = .agg (.lit (.string s.name) :: r)) 3 Tryd.underlying22 cellsSymP (by decide) (fun m cs y hy => open_sy hy) h
  refine ⟨_, l, hcs, ⟨p, cap, rfl, h1, h2, h3, fun h0 => ?_⟩, fun s hs => ?_⟩
  · obtain ⟨b, off, e, hb, hc⟩ := h4 h0
    refine ⟨b, off, e, hb, fun i hi => ?_⟩
    obtain ⟨c, d, -, k, ⟨rfl, -⟩, -⟩ := hc i hi
    exact ⟨k 0 _ rfl, k 1 _ rfl, k 2 _ rfl⟩
  · obtain ⟨i, hi, rfl⟩ := List.mem_iff_getElem.1 hs
    obtain ⟨b, off, e, hb, hc⟩ := h4 (by omega)
    obtain ⟨c, d, -, k, ⟨-, r, rfl⟩, hm⟩ := hc i hi
    exact ⟨r, hm⟩
end
end Go.Proofs.YthheafjilbeddaaDoor
/- elenchusref04.CheckSyms, Few. -/
namespace Go.Proofs.YthheafjilbeddaaDoor
open Go.RowKit Big Go.WideMaps

/-- two symbols of one name stand among these -/
def dupN : List Sy → Bool
  | [] => false
  | s :: l => dupN l || l.any (fun x => x.name == s.name)
/-- a name stands twice among the first k -/
def dupAt (l : List Sy) (i : Nat) (h : i < l.length) : Bool := (l.take i).any fun x => x.name == l[i].name
theorem plDecls_err : ∀ (l : List Sy) (p : Po), p.syms.length + l.length ≤ 256 → l.any plBadSym = false → ((∀ i (h : i < l.length), dupAt l i h = false ∧ p.syms.any (fun x => x.name == l[i].name) = false) → (plDecls p l).2 = 0) ∧ ((∃ i, ∃ h : i < l.length, dupAt l i h = true ∨ p.syms.any (fun x => x.name == l[i].name) = true) → (plDecls p l).2 = 7)
  | [], p, _, _ => ⟨fun _ => rfl, fun ⟨i, h, _⟩ => absurd h (by simp)⟩
  | s :: l, p, hl, hb => by
    rw [List.any_cons, Bool.or_eq_false_iff] at hb
    have hlen : p.syms.length ≠ 256 := by simp at hl; omega
    cases hn : p.syms.any (fun x => x.name == s.name)
    case true =>
      refine ⟨fun h => ?_, fun _ => ?_⟩
      · have := (h 0 (by simp)).2
        simp only [List.getElem_cons_zero] at this
        rw [hn] at this; cases this
      · unfold plDecls
        rw [plDeclare_name hb.1 hn]
        rfl
    case false =>
      have hd := plDeclare_new hb.1 hn hlen
      have hr : plDecls p (s :: l) = plDecls ⟨p.syms ++ [s], p.terms, p.sorts⟩ l := by
        rw [plDecls]
        rw [hd]
        simp
      rw [hr]
      have ih := plDecls_err l ⟨p.syms ++ [s], p.terms, p.sorts⟩ (by simp at hl ⊢; omega) hb.2
      have key : ∀ i (h : i < l.length), dupAt (s :: l) (i + 1) (by simpa using h) = (dupAt l i h || (s.name == l[i].name)) := fun i h => by
        unfold dupAt
        simp only [List.take_succ_cons, List.any_cons, List.getElem_cons_succ]
        rw [Bool.or_comm]
      have key2 : ∀ i (h : i < l.length), (p.syms ++ [s]).any (fun x => x.name == l[i].name) = (p.syms.any (fun x => x.name == l[i].name) || (s.name == l[i].name)) := fun i h => by simp
      refine ⟨fun h => ih.1 fun i hi => ?_, fun ⟨i, hi, h⟩ => ?_⟩
      · have h1 := h (i + 1) (by simpa using hi)
        rw [key i hi] at h1
        simp only [List.getElem_cons_succ, Bool.or_eq_false_iff] at h1
        exact ⟨h1.1.1, by show (p.syms ++ [s]).any _ = false; rw [key2 i hi, h1.2, h1.1.2]; rfl⟩
      · cases i with
        | zero =>
          exfalso
          rcases h with h | h
          · simp [dupAt] at h
          · simp only [List.getElem_cons_zero] at h; rw [hn] at h; cases h
        | succ i =>
          have hi' : i < l.length := by simpa using hi
          refine ih.2 ⟨i, hi', ?_⟩
          rw [key i hi'] at h
          simp only [List.getElem_cons_succ, Bool.or_eq_true] at h
          rcases h with (h | h) | h
          · exact .inl h
          · exact .inr (by show (p.syms ++ [s]).any _ = true; rw [key2 i hi', h]; simp)
          · exact .inr (by show (p.syms ++ [s]).any _ = true; rw [key2 i hi', h]; rfl)
theorem newErr_dup {l : List Sy} (h : ¬ 256 < l.length) (hb : l.any plBadSym = false) (i : Nat) (hi : i < l.length) (hd : dupAt l i hi = true) : plNewErr l = 7 := by
  unfold plNewErr
  rw [if_neg h, if_neg (by simp [hb])]
  exact (plDecls_err l ⟨[], [], []⟩ (by simp; omega) hb).2 ⟨i, hi, .inl hd⟩
theorem newErr_ok {l : List Sy} (h : ¬ 256 < l.length) (hb : l.any plBadSym = false) (hd : ∀ i (hi : i < l.length), dupAt l i hi = false) : plNewErr l = 0 := by
  unfold plNewErr
  rw [if_neg h, if_neg (by simp [hb])]
  exact (plDecls_err l ⟨[], [], []⟩ (by simp; omega) hb).1 fun i hi => ⟨hd i hi, rfl⟩
set_option maxRecDepth 100000 in
set_option maxHeartbeats 12800000 in
theorem CheckSyms_any (v : Value) (l : List Sy) (w : World) (hl : SyIn w v l) : Calls Tryd.prog 12 #[v] w (RNum .i64 (plNewErr l) w) := by
  obtain ⟨pa, ca, rfl, i1, i2, -, i4⟩ := hl
  have Hi := hid i4
  have Hsym := hid (fun (s : Sy) W => IsSym_any s W)
  unfold maxLen at i2
  clear i4
  cases hlong : decide ((256 : Int) < (l.length : Nat))
  case true =>
    have He := hid (show plNewErr l = 11 by unfold plNewErr; rw [if_pos (by have := of_decide_eq_true hlong; omega)])
    go_enter Tryd.func12, Tryd.ntmps12
    go_wp2
    go_ret
    exact ⟨by rw [He.out]; rfl, Below.refl _ _⟩
  case false =>
  have Hle := hid (show ¬ 256 < l.length by have := of_decide_eq_false hlong; omega)
  have hle : l.length ≤ 256 := by have := Hle.out; omega
  go_enter Tryd.func12, Tryd.ntmps12
  go_wp2_with fail
  clear hlong
  go_loopw [14] (fun i wr => ∃ k : Nat, k ≤ l.length ∧ i = .int .i64 (k : Nat) ∧ Hid ((l.take k).any plBadSym = false) ∧ Hid (Below w.heap.size w wr)) (fun i _ => l.length - (intOf i).toNat)
  case atStart => exact ⟨0, Nat.zero_le _, rfl, hid rfl, hid (Below.refl _ _)⟩
  case round =>
    obtain ⟨k, hk, rfl, hany, Hb⟩ := hrel
    by_cases hlt : k < l.length
    · have hlt' : (k : Int) < (l.length : Nat) := by omega
      obtain ⟨bb, off, rfl, j1, j2⟩ := Hi.out (by omega)
      obtain ⟨m0, m1, m2⟩ := j2 k hlt
      have m0 := (Hb.out.cell (p := ⟨bb, off + k * 3, none⟩) j1).trans m0
      have m1 := (Hb.out.cell (p := ⟨bb, off + k * 3 + 1, none⟩) j1).trans m1
      have m2 := (Hb.out.cell (p := ⟨bb, off + k * 3 + 2, none⟩) j1).trans m2
      have hc := fun W => Hsym.out l[k] W
      have hs1 := any_take_succ plBadSym l k hlt hany.out
      have hs2 := any_of_at plBadSym l k hlt
      generalize l[k] = x at *
      generalize plBadSym x = r at *
      unfold Sy.val at hc
      have Hs1 := hid hs1; have Hs2 := hid hs2; have Hc := hid hc
      clear j2 hs1 hs2 hc hany
      obtain ⟨nm, ar, so⟩ := x
      dsimp only at *
      have bx := below1 wr (.cells #[.string ⟨nm.toArray⟩, .int .i64 ar, .int .i64 so] 51)
      cases r
      · go_wp2_with (refine (Hc.out _).mono ?_; rintro e w1 ⟨rfl, b1⟩)
        go_roundw
        case rel => exact ⟨k + 1, by omega, rfl, hid (Hs1.out (by trivial)), hid (Hb.out.trans ((bel_go b1 bx).mono Hb.out.size))⟩
        case measure => simp [intOf]; omega
      · have He := hid (show plNewErr l = 6 by unfold plNewErr; rw [if_neg Hle.out, if_pos (Hs2.out (by trivial))])
        go_wp2_with (refine (Hc.out _).mono ?_; rintro e w1 ⟨rfl, b1⟩)
        go_ret
        exact ⟨by rw [He.out]; rfl, Hb.out.trans ((bel_go b1 bx).mono Hb.out.size)⟩
    · have hkk : k = l.length := by omega
      subst hkk
      have Hbad := hid (show l.any plBadSym = false by have := hany.out; rwa [List.take_length] at this)
      clear hany
      go_wp2_with fail
      go_loopw [24] (fun i wq => ∃ k : Nat, k ≤ l.length ∧ i = .int .i64 (k : Nat) ∧ Hid (∀ i (h : i < l.length), i < k → dupAt l i h = false) ∧ Hid (Below w.heap.size w wq)) (fun i _ => l.length - (intOf i).toNat)
      case atStart => exact ⟨0, Nat.zero_le _, rfl, hid (fun i _ h => absurd h (by omega)), Hb⟩
      case round =>
        obtain ⟨k, hk, rfl, hdup, Hq⟩ := hrel
        by_cases hlt : k < l.length
        · have hlt' : (k : Int) < (l.length : Nat) := by omega
          obtain ⟨bb, off, rfl, j1, j2⟩ := Hi.out (by omega)
          obtain ⟨m0, m1, m2⟩ := j2 k hlt
          have m0 := (Hq.out.cell (p := ⟨bb, off + k * 3, none⟩) j1).trans m0
          have m1 := (Hq.out.cell (p := ⟨bb, off + k * 3 + 1, none⟩) j1).trans m1
          have m2 := (Hq.out.cell (p := ⟨bb, off + k * 3 + 2, none⟩) j1).trans m2
          have hstep : ∀ j (hj : j < k), ((l.take j).any (fun x => x.name == l[k].name) = false) → ((l[j]'(by omega)).name == l[k].name) = false → (l.take (j + 1)).any (fun x => x.name == l[k].name) = false := fun j hj h1 h2 => by
            rw [List.take_succ_eq_append_getElem (by omega), List.any_append, h1]
            simpa using h2
          have hyes : ∀ j (hj : j < k), ((l[j]'(by omega)).name == l[k].name) = true → dupAt l k hlt = true := fun j hj h => by
            unfold dupAt
            rw [List.any_eq_true]
            exact ⟨l[j]'(by omega), by rw [List.mem_take_iff_getElem]; exact ⟨j, by omega, rfl⟩, h⟩
          have hno : (l.take k).any (fun x => x.name == l[k].name) = false → ∀ i (h : i < l.length), i < k + 1 → dupAt l i h = false := fun h i hi hik => by
            by_cases hie : i = k
            · subst hie; exact h
            · exact hdup.out i hi (by omega)
          have Hstep := hid hstep; have Hyes := hid hyes; have Hno := hid hno
          have bx := below1 wr (.cells #[.string ⟨l[k].name.toArray⟩, .int .i64 l[k].arity, .int .i64 l[k].sort] 51)
          have hbx := heap_alloc_new wr (.cells #[.string ⟨l[k].name.toArray⟩, .int .i64 l[k].arity, .int .i64 l[k].sort] 51)
          have hsz := size_alloc wr (.cells #[.string ⟨l[k].name.toArray⟩, .int .i64 l[k].arity, .int .i64 l[k].sort] 51)
          have hkc : (k : Int) ≤ (ca : Nat) := by omega
          have hkn : (0 : Int) ≤ (k : Nat) := by omega
          have J2 := hid j2
          clear hstep hyes hno j2 hdup
          generalize hxk : l[k].name = nk at *
          generalize l[k].arity = ak at *
          generalize l[k].sort = sk at *
          have Hxk := hid hxk
          clear hxk
          go_upto_region 12 with fail
          generalize hW5 : (wr.alloc (.cells #[.string ⟨nk.toArray⟩, .int .i64 ak, .int .i64 sk] 51)) = w5 at *
          have Hq5 := hid (Hq.out.trans (bx.mono Hq.out.size))
          have hwr : wr.heap.size < w5.heap.size := by omega
          clear hW5 hsz m0 m1 m2 bx
          generalize wr.heap.size = gx at hbx hwr ⊢
          have HBX := hid hbx
          clear hbx
          go_wp2_with fail
          go_loopw [33] (fun i wr => ∃ j : Nat, j ≤ k ∧ i = .int .i64 (j : Nat) ∧ Hid ((l.take j).any (fun x => x.name == nk) = false) ∧ Hid (Below w5.heap.size w5 wr)) (fun i _ => k - (intOf i).toNat)
          case atStart => exact ⟨0, Nat.zero_le _, rfl, hid rfl, hid (Below.refl _ _)⟩
          case round =>
            obtain ⟨j, hj, rfl, hn, Hi5⟩ := hrel
            have Hiw := hid (Hq5.out.trans (Hi5.out.mono Hq5.out.size))
            by_cases hjk : j < k
            · have hjk' : (j : Int) < (k : Nat) := by omega
              obtain ⟨m0, m1, m2⟩ := J2.out j (by omega)
              have m0 := (Hiw.out.cell (p := ⟨bb, off + j * 3, none⟩) j1).trans m0
              have m1 := (Hiw.out.cell (p := ⟨bb, off + j * 3 + 1, none⟩) j1).trans m1
              have m2 := (Hiw.out.cell (p := ⟨bb, off + j * 3 + 2, none⟩) j1).trans m2
              have bz := below1 wr (.cells #[.string ⟨(l[j]'(by omega)).name.toArray⟩, .int .i64 (l[j]'(by omega)).arity, .int .i64 (l[j]'(by omega)).sort] 51)
              have y0 := (bz.cell (p := ⟨gx, 0, none⟩) (by have := Hi5.out.size; dsimp only; omega)).trans ((Hi5.out.cell (p := ⟨gx, 0, none⟩) (by dsimp only; omega)).trans (three_cells HBX.out).1)
              have hs := Hstep.out j hjk
              have hy := Hyes.out j hjk
              have Hi6 := hid (Hi5.out.trans (bz.mono Hi5.out.size))
              generalize (l[j]'(by omega)).arity = aj at *
              generalize (l[j]'(by omega)).sort = sj at *
              generalize (l[j]'(by omega)).name = nj at *
              have Hs := hid hs; have Hy := hid hy
              clear hs hy bz
              cases he : (nk == nj)
              · have hne : (nj == nk) = false := by rw [Bool.eq_false_iff] at he ⊢; intro h; exact he (by simpa using (eq_of_beq h).symm)
                have Hr := hid (Hs.out hn.out hne)
                clear hne
                go_wp2_with fail
                go_roundw
                case rel => exact ⟨j + 1, by omega, rfl, Hr, Hi6⟩
                case measure => simp [intOf]; omega
              · have hne : (nj == nk) = true := by simpa using (eq_of_beq he).symm
                have He := hid (show plNewErr l = 7 from newErr_dup Hle.out Hbad.out k hlt (Hy.out hne))
                clear hne
                go_wp2_with fail
                go_ret
                exact ⟨by rw [He.out]; rfl, Hq5.out.trans (Hi6.out.mono Hq5.out.size)⟩
            · have hjj : j = k := by omega
              subst hjj
              have Hr := hid (Hno.out hn.out)
              go_wp2_with fail
              go_roundw
              case rel => exact ⟨j + 1, by omega, rfl, Hr, Hiw⟩
              case measure => simp [intOf]; omega
        · have hkk : k = l.length := by omega
          subst hkk
          have He := hid (show plNewErr l = 0 from newErr_ok Hle.out Hbad.out fun i hi => hdup.out i hi hi)
          go_wp2_with fail
          go_ret
          exact ⟨by rw [He.out]; rfl, Hq.out⟩
end Go.Proofs.YthheafjilbeddaaDoor
/- elenchusref04.Check. -/
namespace Go.Proofs.YthheafjilbeddaaDoor
open Go.RowKit Big Go.WideMaps

theorem plMake_split (p : Po) (t : Tm) (h : p.terms.length ≤ 4096) : (plMake p t).2.2 ≠ 0 ∨ (∃ k : Nat, k < p.terms.length ∧ plMake p t = (p, ((k : Nat) : Int), 0)) ∨ (plWrong p t = 0 ∧ p.terms.length < 4096 ∧ plMake p t = (⟨p.syms, p.terms ++ [t], p.sorts ++ [plSort p t]⟩, ((p.terms.length : Nat) : Int), 0)) := by
  by_cases hw : plWrong p t = 0
  · cases hf : plFind p.terms t with
    | some k => exact .inr (.inl ⟨k, (plFind_some hf).1, plMake_there hw hf⟩)
    | none =>
      by_cases hl : p.terms.length = 4096
      · left; rw [plMake_full hw hf hl]; show (11 : Int) ≠ 0; decide
      · exact .inr (.inr ⟨hw, by omega, plMake_new hw hf hl⟩)
  · left; rw [plMake_bad hw]; exact hw
/-- where the reference's Check stands -/
def ChkAt (W0 : World) (B G : Nat) (vs : Value) (syms : List Sy) (terms : List Tm) (k : Nat) (wr : World) : Prop :=
  ∃ pk vr, (plNews ⟨syms, [], []⟩ terms).2 = (plNews pk (terms.drop k)).2 ∧ PoGood pk ∧ pk.syms = syms ∧ pk.terms.length = k ∧ RfIn W0 B wr vr pk.terms ∧ (∀ x ∈ pk.terms, sz W x.num.natAbs ≤ 549755813888) ∧
    wr.heap[G]? = some (.cells #[vs, vr] 27 (0, 0)) ∧ Below W0.heap.size W0 wr
set_option maxRecDepth 100000 in
set_option maxHeartbeats 25600000 in
theorem RCheck_any (vs vt : Value) (syms : List Sy) (terms : List Tm) (w : World) (hs : SyIn w vs syms) (ht : TmsIn w vt terms) (hsz : ∀ x ∈ terms, sz W x.num.natAbs ≤ 549755813888) :
    Calls Tryd.prog 23 #[.agg #[vs, vt]] w (RNum .i64 (plCheck syms terms) w) := by
  have Hs := hid hs; have Ht := hid ht; have Hsz := hid hsz
  obtain ⟨pa, ca, rfl, -, -, -, -⟩ := hs
  obtain ⟨pb, cb, rfl, b1, b2, -, -⟩ := ht
  have bx := below1 w (.cells #[.slice pa syms.length ca, .slice pb terms.length cb] 27)
  have hx0 := heap_alloc_new w (.cells #[.slice pa syms.length ca, .slice pb terms.length cb] 27)
  have hz := size_alloc w (.cells #[.slice pa syms.length ca, .slice pb terms.length cb] 27)
  obtain ⟨z0, z1, -, -⟩ := two_cells hx0
  have Hcs := hid (CheckSyms_any _ syms _ (Hs.out.below bx))
  generalize hne : plNewErr syms = ne at Hcs
  have Hne := hid hne
  clear hsz hne
  unfold maxLen at b2
  go_enter Tryd.func23, Tryd.ntmps23
  go_wp2_with fail
  generalize hW : (w.alloc (.cells #[.slice pa syms.length ca, .slice pb terms.length cb] 27)) = W1 at *
  refine Hcs.out.mono ?_
  rintro e w2 ⟨rfl, b2'⟩
  have Hb2 := hid (bel_go b2' bx)
  have hx2 := (b2'.block w.heap.size (by omega)).trans hx0
  have hz2 := b2'.size
  clear hW z0 z1 Hcs
  cases he : (ne != 0)
  case true =>
    have He := hid (show plCheck syms terms = ne by unfold plCheck; rw [if_pos (by rw [Hne.out]; simpa using he), Hne.out])
    clear hx0 hx2
    go_wp2
    go_ret
    exact ⟨by rw [He.out]; rfl, Hb2.out⟩
  case false =>
  have He := hid (show plCheck syms terms = (plNews ⟨syms, [], []⟩ terms).2 by unfold plCheck; rw [if_neg (by rw [Hne.out]; simpa using he)])
  have hsl : syms.length ≤ 256 := by
    have h0 : plNewErr syms = 0 := by rw [Hne.out]; simpa using he
    by_cases h : 256 < syms.length
    · unfold plNewErr at h0; rw [if_pos h] at h0; cases h0
    · omega
  obtain ⟨z0, z1, -, -⟩ := two_cells hx2
  have bz := below1 w2 (.cells #[.slice pa syms.length ca, .slice none 0 0] 27)
  have hg0 := heap_alloc_new w2 (.cells #[.slice pa syms.length ca, .slice none 0 0] 27)
  have hzg := size_alloc w2 (.cells #[.slice pa syms.length ca, .slice none 0 0] 27)
  have hx3 := (bz.block w.heap.size (by omega)).trans hx2
  have Hb3 := hid (bel_go bz Hb2.out)
  have Hsl := hid hsl
  go_upto_region 5 with fail
  generalize hW : (w2.alloc (.cells #[.slice pa syms.length ca, .slice none 0 0] 27)) = W3 at *
  obtain ⟨G, hG⟩ : ∃ G, G = w2.heap.size := ⟨_, rfl⟩
  rw [← hG] at hg0 hzg ⊢
  have hGw : w.heap.size < G := by omega
  have hG3 : G < W3.heap.size := by omega
  clear hW z0 z1 hx0 hx2 bz hsl bx b2' hz hz2 hG hzg he
  obtain ⟨z0, z1, -, -⟩ := two_cells hx3
  have Hg0 := hid hg0
  clear hg0 hx3
  go_wp2_with fail
  clear z0 z1
  go_loopw [22] (fun i wr => ∃ k : Nat, k ≤ terms.length ∧ i = .int .i64 (k : Nat) ∧ Hid (ChkAt w W3.heap.size G (.slice pa syms.length ca) syms terms k wr) ∧ W3.heap.size ≤ wr.heap.size) (fun i _ => terms.length - (intOf i).toNat)
  case atStart => exact ⟨0, Nat.zero_le _, rfl, hid ⟨⟨syms, [], []⟩, .slice none 0 0, by rw [List.drop_zero], ⟨rfl, by simp, Hsl.out, fun k h => absurd h (by simp)⟩, rfl, rfl, ⟨[], World.ownsRow_nil _ _ _ _, rfl⟩, fun x h => absurd h (by simp), Hg0.out, Hb3.out⟩, Nat.le_refl _⟩
  case round =>
    obtain ⟨k, hk, rfl, Hk, hzr⟩ := hrel
    by_cases hlt : k < terms.length
    · have hlt' : (k : Int) < (terms.length : Nat) := by omega
      obtain ⟨pk, vr, hnx, hgood, hsy, hln, hrf, hszk, hgk, hbk⟩ := Hk.out
      obtain ⟨_, _, e5, -, -, -, hc⟩ := Ht.out.below hbk
      obtain ⟨_, _, e6, -, -, -, hcw⟩ := Ht.out
      cases e5; cases e6
      obtain ⟨bb, off, rfl, j1, j2⟩ := hcw (by omega)
      obtain ⟨c0, c1, c2, c3, c4, m0, m1, m2, m3, m4, hraw⟩ := j2 k hlt
      have m0 := (hbk.cell (p := ⟨bb, off + k * 5, none⟩) j1).trans m0
      have m1 := (hbk.cell (p := ⟨bb, off + k * 5 + 1, none⟩) j1).trans m1
      have m2 := (hbk.cell (p := ⟨bb, off + k * 5 + 2, none⟩) j1).trans m2
      have m3 := (hbk.cell (p := ⟨bb, off + k * 5 + 3, none⟩) j1).trans m3
      have m4 := (hbk.cell (p := ⟨bb, off + k * 5 + 4, none⟩) j1).trans m4
      have hszx := Hsz.out terms[k] (List.getElem_mem hlt)
      have hdr : terms.drop k = terms[k] :: terms.drop (k + 1) := List.drop_eq_getElem_cons hlt
      rw [hdr] at hnx
      generalize terms[k] = x at *
      have hsp := plMake_split pk x hgood.2.1
      have hrm := fun W (hW : Below wr.heap.size wr W) => RMake_any w W3.heap.size pk hgood x _ vr _ W (bel_go hW hbk) (Nat.le_trans hzr hW.size) (show SyIn w (.slice pa syms.length ca) pk.syms by rw [hsy]; exact Hs.out) (hrf.below hW) hraw hszx hszk
      obtain ⟨pe, ce, b', pm', nm', cm', ea, -, -⟩ := hraw
      have ea' := agg5 ea
      obtain ⟨rfl, rfl, rfl, rfl, rfl⟩ := ea'
      obtain ⟨csr, hrow, -⟩ := id hrf
      obtain ⟨pr, cr, rfl⟩ := ownsRow_shape hrow
      rw [hln] at hgk hrow hrm hsp
      have Hrm := hid hrm
      obtain ⟨g0, g1, -, -⟩ := two_cells hgk
      have bt := below1 wr (.cells #[.int .i64 x.op, .slice pe x.args.length ce, .bool b', .slice pm' nm' cm', .int .i64 x.sym] 39)
      have hGr : G < wr.heap.size := lt_of_block hgk
      have g0 := (bt.cell (p := ⟨G, 0, none⟩) hGr).trans g0
      have g1 := (bt.cell (p := ⟨G, 1, none⟩) hGr).trans g1
      have Hnx := hid hnx; have Hgood := hid hgood; have Hsy := hid hsy; have Hln := hid hln; have Hszk := hid hszk; have Hgk := hid hgk; have Hbk := hid hbk; have Hszx := hid hszx
      have Hrow := hid hrow
      clear hc hcw j2 hnx hgood hsy hln hszk hgk hbk hszx hrm hdr hrf ea hrow Hk
      obtain ⟨⟨p', n, er⟩, hpm⟩ : ∃ q, q = plMake pk x := ⟨_, rfl⟩
      rw [← hpm] at Hrm hsp
      have Hpm := hid hpm
      clear hpm
      dsimp only at Hrm hsp
      have hv3 : Hid (∀ u, (Value.slice pr k cr).ownBlock = some u → W3.heap.size ≤ u) := hid fun u hu => (World.ownsRow.lt Hrow.out u hu).1
      go_wp2_with fail
      refine (Hrm.out _ bt).mono ?_
      rintro e w4 ⟨vr', rfl, hrf', hA, -⟩
      clear m0 m1 m2 m3 m4 g0 g1 Hrm
      have hwW3 : w.heap.size ≤ W3.heap.size := by omega
      have hb4 : Below w.heap.size w w4 := (bel_go bt Hbk.out).trans (hA.below (B := w.heap.size) (Nat.le_trans hwW3 (Nat.le_trans hzr bt.size)) (fun i hi => Nat.le_trans hwW3 (hv3.out i hi)))
      have hg4 : w4.heap[G]? = _ := (hA.block G (Nat.lt_of_lt_of_le hGr bt.size) (fun e => by have := hv3.out G e; omega)).trans ((bt.block G hGr).trans Hgk.out)
      obtain ⟨csr', hrow', hrr'⟩ := id hrf'
      obtain ⟨pr', cr', evr⟩ := ownsRow_shape hrow'
      subst evr
      have hz4 : wr.heap.size ≤ w4.heap.size := Nat.le_trans bt.size hA.size
      have Hrf' := hid hrf'; have Hb4 := hid hb4; have Hg4 := hid hg4
      clear hrf' hA hb4 hg4 hrow' hrr' bt
      have hpnew : Hid (er ≠ 0 → (plNews pk (x :: terms.drop (k + 1))).2 = er) := hid fun h => by
        have hq : plNew pk x = (p', n, er) := by unfold plNew; rw [← Hpm.out, if_neg (fun hh => h hh.1)]
        rw [plNews, hq, if_pos h]
      rcases hsp with hE | ⟨j, hj, hE⟩ | ⟨hw0, hl, hE⟩
      · have Hf := hid (show plCheck syms terms = er by rw [He.out, Hnx.out, hpnew.out hE])
        have hbt : (er != 0) = true := by simpa using hE
        clear hE
        go_wp2_with fail
        go_ret
        exact ⟨by rw [Hf.out]; rfl, bel_go (below1 _ _) Hb4.out⟩
      · injection hE with e1 hE
        injection hE with e2 e3
        subst e1 e2 e3
        have Hf := hid (show plCheck syms terms = 6 by
          have hq : plNew p' x = (p', 0, 6) := by
            unfold plNew
            rw [← Hpm.out, if_pos ⟨rfl, by have := Hln.out; show ((j : Nat) : Int) < ((p'.terms.length : Nat) : Int); omega⟩]
          rw [He.out, Hnx.out, plNews, hq, if_pos (by show (6 : Int) ≠ 0; decide)])
        have hjk : ((j : Int) != (k : Nat)) = true := by
          have := Hln.out
          simp
          omega
        clear hj
        go_wp2_with fail
        go_ret
        exact ⟨by rw [Hf.out]; rfl, bel_go (below1 _ _) Hb4.out⟩
      · injection hE with e1 hE
        injection hE with e2 e3
        have e2' : n = (k : Nat) := e2
        subst e1 e3
        rw [e2'] at Hpm
        clear e2
        subst e2'
        have Hnext := hid (show (plNews ⟨syms, [], []⟩ terms).2 = (plNews ⟨pk.syms, pk.terms ++ [x], pk.sorts ++ [plSort pk x]⟩ (terms.drop (k + 1))).2 by
          have hq : plNew pk x = (⟨pk.syms, pk.terms ++ [x], pk.sorts ++ [plSort pk x]⟩, ((k : Nat) : Int), 0) := by
            unfold plNew
            rw [← Hpm.out, if_neg (fun hh => by have h2 := hh.2; have h3 := Hln.out; dsimp only at h2; omega)]
          rw [Hnx.out, plNews, hq, if_neg (by simp)])
        have Hg5 := hid (Hgood.out.make hw0 (by have := Hln.out; omega))
        have bq := below1 w4 (.cells #[.slice pa syms.length ca, .slice pr' (pk.terms ++ [x]).length cr'] 27)
        have hg5 := (bq.block G (by omega)).trans Hg4.out
        have hz5 := bq.size
        have hf0 := frozen_all hg5 0; have hf1 := frozen_all hg5 1
        obtain ⟨g0, g1, -, -⟩ := two_cells hg5
        have hg6 := set2_same hg5 (.slice pa syms.length ca) (.slice pr' (pk.terms ++ [x]).length cr')
        have hin5 := Hrf'.out.below bq
        have hGo : ∀ u, (Value.slice pr' (pk.terms ++ [x]).length cr').ownBlock = some u → u ≠ G := fun u hu e => by
          obtain ⟨cs5, hrow5, -⟩ := hin5
          have := (World.ownsRow.lt hrow5 u hu).1
          omega
        have hin6 := (hin5.setFar ⟨G, 0, none⟩ (.slice pa syms.length ca) _ _ hg5 (by decide) (fun e => hGo _ e rfl))
        have hg56 := heap_setCell_same _ G 0 _ _ (.slice pa syms.length ca) hg5
        have Hin7 := hid (hin6.setFar ⟨G, 1, none⟩ (.slice pr' (pk.terms ++ [x]).length cr') _ _ hg56 (by decide) (fun e => hGo _ e rfl))
        have Hg6 := hid hg6
        have Hb7 := hid (((bel_go bq Hb4.out).setCell (p := ⟨G, 0, none⟩) (by show w.heap.size ≤ G; omega) (.slice pa syms.length ca)).setCell (p := ⟨G, 1, none⟩) (by show w.heap.size ≤ G; omega) (.slice pr' (pk.terms ++ [x]).length cr'))
        have Hlen := hid (show (pk.terms ++ [x]).length = k + 1 by have := Hln.out; simp; omega)
        generalize (pk.terms ++ [x]).length = LL at Hin7 Hg6 Hb7 Hlen hin5 hg5 hz5 g0 g1 hf0 hf1 ⊢
        clear hg5 hg6 hin5 hin6 hg56 hGo bq hw0 hl
        go_wp2_with fail
        go_roundw
        case rel =>
          refine ⟨k + 1, by omega, rfl, hid ⟨_, _, Hnext.out, Hg5.out, Hsy.out, by have := Hln.out; simp; omega, Hin7.out, ?_, Hg6.out, Hb7.out⟩, by simp [World.setCell]; omega⟩
          intro y hy
          rcases List.mem_append.1 hy with hy | hy
          · exact Hszk.out y hy
          · simp at hy; subst hy; exact Hszx.out
        case measure => simp [intOf]; omega
    · have hkk : k = terms.length := by omega
      subst hkk
      obtain ⟨pk, vr, hnx, -, -, -, -, -, -, hbk⟩ := Hk.out
      rw [List.drop_length] at hnx
      have Hf := hid (show plCheck syms terms = 0 by rw [He.out, hnx]; rfl)
      have Hbk := hid hbk
      clear hnx hbk Hk
      go_wp2_with fail
      go_ret
      exact ⟨by rw [Hf.out]; rfl, Hbk.out⟩
end Go.Proofs.YthheafjilbeddaaDoor
/- Symbols, terms, rows and bytes that come in as data, by value; how long names may be; PoolNil of what comes in. -/
namespace Go.Proofs.YthheafjilbeddaaDoor
open Go.ChangeShapes Go.WideShapes Go.ChangeAt Go.RowKit Go.Deep Go.Joins Big

theorem lawNil_tx (x : Tx) (v : Value) (s : Sy) (k : Int) (w : World) (htab : Tb w.heap.size w) (h : TxAt w v x) : Calls Tryd.prog 8 #[v, s.val, .int .i64 k] w (RBool true w) := by
  obtain ⟨pa, ca, pm, cm, rfl, -⟩ := h
  exact lawNil_any _ _ _ _ _ _ _ _ _ s k w htab
theorem cellsU8 : Tryd.prog.cellsOf 5 = 1 := by kernel_rfl
theorem fieldsTerms : ∃ f0 f1 : Field, Tryd.prog.underlying 27 = some (.struct #[f0, f1]) ∧ f0.type = 22 ∧ f1.type = 23 ∧ f0.offset = 0 ∧ f1.offset = 1 := ⟨_, _, Tryd.underlying27, rfl, rfl, rfl, rfl⟩
theorem cellsTermsP : Tryd.prog.cellsOf 27 = 2 := by kernel_rfl
theorem cellsSysP : Tryd.prog.cellsOf 22 = 1 := by kernel_rfl
theorem cellsTmsP : Tryd.prog.cellsOf 23 = 1 := by kernel_rfl
section
variable {H : Type} {enc : TypeId × Value → H} {w : World} {base : Nat} {spare : Nat → Bool} {held : Bool}
theorem weightsAll_mem {P : Program} {e : TypeId} : ∀ {ds : List (DataW H)} {d : DataW H}, d ∈ ds → ∀ n ∈ d.weights P e, n ∈ DataW.weightsAll P e ds
  | d0 :: ds, d, hd, n, hn => by
    simp only [DataW.weightsAll, List.mem_append]
    rcases List.mem_cons.1 hd with rfl | hd
    · exact .inl hn
    · exact .inr (weightsAll_mem hd n hn)
theorem name_weight {d : DataW H} {b : List UInt8} {r : List (DataW H)} (hm : DataW.agg (.lit (.string b) :: r) ∈ dataOf d) : b.length ∈ d.weights Tryd.prog 22 := by
  cases d with
  | slice e s =>
    obtain ⟨f0, f1, f2, hs, e0, -⟩ := fieldsSym
    unfold DataW.weights
    rw [Tryd.underlying22]
    refine List.mem_cons_of_mem _ (List.mem_append.2 (.inl (weightsAll_mem hm _ ?_)))
    unfold DataW.weights
    rw [hs]
    simp only [List.map_cons, DataW.weightsEach, List.mem_append]
    exact .inl (by simp [DataW.weights])
  | _ => simp [dataOf] at hm
theorem reach_small : reachBytes ≤ 281474976710656 := by decide
set_option maxRecDepth 100000 in
theorem open_syms {r : Reach} {b0 j : Nat} {v : Value} {d : DataW H} {p : List MemPlace} {ts : List TypeId} {ds : List (DataW H)} (hv : Value.okWide Tryd.prog w r b0 22 v) (h : DataW.Trod enc Tryd.prog w base spare held 22 v d p)
    (hsz : (DataW.weightsEach Tryd.prog ts ds).all (· ≤ reachBytes) = true) (ht : ts[j]? = some 22) (hd : ds[j]? = some d) : ∃ l, SyIn w v l ∧ ∀ s ∈ l, s.name.length ≤ 281474976710656 := by
  obtain ⟨a, len, cap, rfl⟩ := okWide_slice Tryd.underlying22 hv
  obtain ⟨fuel, hf⟩ := h
  obtain ⟨v', l, he, h1, h2⟩ := open_sys hf
  have hv' : v' = .slice a len cap := by simpa [Value.cells] using he.symm
  rw [hv'] at h1
  refine ⟨l, h1, fun s hs => ?_⟩
  obtain ⟨r, hm⟩ := h2 s hs
  have := List.all_eq_true.1 hsz _ (DataW.weights_mem_each ht hd _ (name_weight hm))
  have := reach_small
  simp at *
  omega
set_option maxRecDepth 100000 in
theorem open_terms {r : Reach} {b0 : Nat} {v : Value} {d : DataW H} {p : List MemPlace} (hv : Value.okWide Tryd.prog w r b0 23 v) (h : DataW.Trod enc Tryd.prog w base spare held 23 v d p) : ∃ l, TxsIn w v l := by
  obtain ⟨a, len, cap, rfl⟩ := okWide_slice Tryd.underlying23 hv
  obtain ⟨fuel, hf⟩ := h
  obtain ⟨v', l, he, h1⟩ := open_txs hf
  have hv' : v' = .slice a len cap := by simpa [Value.cells] using he.symm
  rw [hv'] at h1
  exact ⟨l, h1⟩
set_option maxRecDepth 100000 in
theorem open_rws {r : Reach} {b0 j : Nat} {v : Value} {d : DataW H} {p : List MemPlace} {ts : List TypeId} {ds : List (DataW H)} (hv : Value.okWide Tryd.prog w r b0 27 v) (h : DataW.Trod enc Tryd.prog w base spare held 27 v d p)
    (hsz : (DataW.weightsEach Tryd.prog ts ds).all (· ≤ reachBytes) = true) (ht : ts[j]? = some 27) (hd : ds[j]? = some d) : ∃ va vb sy tx, v = .agg #[va, vb] ∧ SyIn w va sy ∧ TxsIn w vb tx ∧ ∀ s ∈ sy, s.name.length ≤ 281474976710656 := by
  obtain ⟨f0, f1, hs, e0, e1, o0, o1⟩ := fieldsTerms
  obtain ⟨cs, rfl, -⟩ := okWide_struct hs hv
  obtain ⟨fuel, hf⟩ := h
  obtain ⟨xs, n, -, hx, hl, hlen, hfi⟩ := DataW.trod_struct hs hf
  rw [cellsTermsP] at hl
  obtain ⟨va, vb, hcs⟩ : ∃ a b, cs = #[a, b] := by
    obtain ⟨l⟩ := cs
    have hl' : l.length = 2 := by simpa [Value.cells] using hl
    match l, hl' with
    | [a, b], _ => exact ⟨a, b, rfl⟩
  subst hcs
  match xs, hlen with
  | [y0, y1], _ =>
    have h0 := hfi 0 f0 rfl
    have h1 := hfi 1 f1 rfl
    rw [e0, o0, cellsSysP] at h0
    rw [e1, o1, cellsTmsP] at h1
    obtain ⟨v0, sy, g0, k0, n0⟩ := open_sys (show DataW.trod enc Tryd.prog w base spare held n 22 [va] = some y0 from h0)
    obtain ⟨v1, tx, g1, k1⟩ := open_txs (show DataW.trod enc Tryd.prog w base spare held n 23 [vb] = some y1 from h1)
    injection g0 with g0 _; injection g1 with g1 _
    subst g0 g1
    refine ⟨va, vb, sy, tx, rfl, k0, k1, fun s hs' => ?_⟩
    obtain ⟨r, hm⟩ := n0 s hs'
    have hdd : d = .agg [y0.1, y1.1] := by injection hx
    have hwt : s.name.length ∈ d.weights Tryd.prog 27 := by
      rw [hdd]
      unfold DataW.weights
      rw [hs]
      simp only [List.map_cons, DataW.weightsEach, List.mem_append, e0]
      exact .inl (name_weight hm)
    have := List.all_eq_true.1 hsz _ (DataW.weights_mem_each ht hd _ hwt)
    have := reach_small
    simp at *
    omega
theorem wf_u8 {n : Int} (h : (Lit.int .u8 n).wf = true) : 0 ≤ n ∧ n < 256 := by
  have h' : (decide (IntKind.u8.min ≤ n) && decide (n ≤ IntKind.u8.max)) = true := h
  have e1 : IntKind.u8.min = 0 := by decide
  have e2 : IntKind.u8.max = 255 := by decide
  rw [e1, e2] at h'
  simp only [Bool.and_eq_true, decide_eq_true_eq] at h'
  omega
set_option maxRecDepth 100000 in
theorem open_bytes {r : Reach} {b0 : Nat} {v : Value} {d : DataW H} {p : List MemPlace} (hv : Value.okWide Tryd.prog w r b0 56 v) (h : DataW.Trod enc Tryd.prog w base spare held 56 v d p) :
    ∃ l, At w .u8 v l := by
  obtain ⟨a, len, cap, rfl⟩ := okWide_slice Tryd.underlying56 hv
  obtain ⟨fuel, hf⟩ := h
  rcases open_ints Tryd.underlying56 Tryd.underlying5 cellsU8 hf with ⟨he, -⟩ | ⟨a', len', cap', zs, he, hb, hl, hm, hz, -, hc, hwf⟩
  · have he : Value.slice a len cap = .slice none 0 0 := by simpa [Value.cells] using he
    rw [he]
    exact ⟨[], At.nil w .u8⟩
  · have he : Value.slice a len cap = .slice (some a') len' cap' := by simpa [Value.cells] using he
    rw [he]
    have hlz : len' ≤ zs.length := by rw [hz]; split <;> omega
    refine ⟨(zs.take len').map Int.toNat, ?_⟩
    have e : ((zs.take len').map Int.toNat).length = len' := by simp [Nat.min_eq_left hlz]
    refine ⟨some a', cap', by rw [e], by rw [e]; exact hl, hm, nofun, fun h0 => ?_⟩
    rw [e] at h0
    have hs := hc 0 (by omega)
    obtain ⟨b, off, spot⟩ := a'
    cases spot with
    | some x =>
      exfalso
      revert hs
      unfold World.cell? Addr.add
      split <;> simp
    | none =>
      refine ⟨b, off, rfl, World.block_lt_of_cell? w _ hs, fun i hi => ?_⟩
      rw [e] at hi
      have hci := hc i (by omega)
      have hw := wf_u8 (hwf _ (List.getElem_mem (n := i) (l := zs) (by omega)))
      rw [add_plain] at hci
      rw [hci]
      have hg : zs.getD i 0 = zs[i]'(by omega) := by simp [List.getD, show i < zs.length by omega]
      rw [hg]
      simp only [List.getElem_map, List.getElem_take]
      congr 2
      omega
end
end Go.Proofs.YthheafjilbeddaaDoor
/- elenchusref04.Few; PoolChecks answers true. -/
namespace Go.Proofs.YthheafjilbeddaaDoor
open Go.RowKit Big Go.WideMaps

def fewT (x : Tx) : Bool := decide (x.args.length ≤ 70) && decide (x.words.length ≤ 8)
def plFew (sy : List Sy) (tx : List Tx) : Bool := decide (sy.length ≤ 40) && decide (tx.length ≤ 200) && tx.all fewT
theorem TxsIn.below {w w' : World} {v : Value} {l : List Tx} (h : TxsIn w v l) (hb : Below w.heap.size w w') : TxsIn w' v l := by
  obtain ⟨p, cap, rfl, h1, h2, h3, h4⟩ := h
  refine ⟨p, cap, rfl, h1, h2, h3, fun hp => ?_⟩
  obtain ⟨b, off, h5, h6, h7⟩ := h4 hp
  refine ⟨b, off, h5, Nat.lt_of_lt_of_le h6 hb.size, fun i hi => ?_⟩
  obtain ⟨c0, c1, c2, c3, c4, e0, e1, e2, e3, e4, ht⟩ := h7 i hi
  have c : ∀ o, w'.cell? ⟨b, o, none⟩ = w.cell? ⟨b, o, none⟩ := fun o => hb.cell (p := ⟨b, o, none⟩) h6
  exact ⟨c0, c1, c2, c3, c4, (c _).trans e0, (c _).trans e1, (c _).trans e2, (c _).trans e3, (c _).trans e4, ht.below hb⟩
set_option maxRecDepth 100000 in
set_option maxHeartbeats 12800000 in
theorem RFew_any (va vb : Value) (sy : List Sy) (tx : List Tx) (w : World) (hs : SyIn w va sy) (ht : TxsIn w vb tx) : Calls Tryd.prog 10 #[.agg #[va, vb]] w (RBool (plFew sy tx) w) := by
  obtain ⟨pa, ca, rfl, a1, a2, -, -⟩ := hs
  obtain ⟨pb, cb, rfl, b1, b2, -, b4⟩ := ht
  have Hb4 := hid b4
  have bx := below1 w (.cells #[.slice pa sy.length ca, .slice pb tx.length cb] 27)
  have hx0 := heap_alloc_new w (.cells #[.slice pa sy.length ca, .slice pb tx.length cb] 27)
  obtain ⟨z0, z1, -, -⟩ := two_cells hx0
  obtain ⟨r, hr⟩ : ∃ r, r = plFew sy tx := ⟨_, rfl⟩
  rw [← hr]
  have Hr := hid hr
  clear hr b4 hx0
  unfold maxLen at a2 b2
  cases h40 : decide ((40 : Int) < (sy.length : Nat))
  case true =>
    have He := hid (show r = false by rw [Hr.out]; unfold plFew; rw [show decide (sy.length ≤ 40) = false by have := of_decide_eq_true h40; simp; omega]; rfl)
    go_enter Tryd.func10, Tryd.ntmps10
    go_wp2
    go_ret
    exact ⟨by rw [He.out]; rfl, bx⟩
  case false =>
  cases h200 : decide ((200 : Int) < (tx.length : Nat))
  case true =>
    have He := hid (show r = false by rw [Hr.out]; unfold plFew; rw [show decide (tx.length ≤ 200) = false by have := of_decide_eq_true h200; simp; omega]; simp)
    go_enter Tryd.func10, Tryd.ntmps10
    go_wp2
    go_ret
    exact ⟨by rw [He.out]; rfl, bx⟩
  case false =>
  have HR := hid (show r = tx.all fewT by
    rw [Hr.out]; unfold plFew
    rw [show decide (sy.length ≤ 40) = true by have := of_decide_eq_false h40; simp; omega, show decide (tx.length ≤ 200) = true by have := of_decide_eq_false h200; simp; omega]
    simp)
  go_enter Tryd.func10, Tryd.ntmps10
  go_wp2_with fail
  generalize hW : (w.alloc (.cells #[.slice pa sy.length ca, .slice pb tx.length cb] 27)) = W1 at *
  have HB1 := hid bx
  clear h40 h200 z0 z1 hW bx
  go_loopw [18] (fun i wr => ∃ k : Nat, k ≤ tx.length ∧ i = .int .i64 (k : Nat) ∧ Hid ((tx.take k).any (fun x => !fewT x) = false) ∧ Hid (Below W1.heap.size W1 wr)) (fun i _ => tx.length - (intOf i).toNat)
  case atStart => exact ⟨0, Nat.zero_le _, rfl, hid rfl, hid (Below.refl _ _)⟩
  case round =>
    obtain ⟨k, hk, rfl, hany, Hb⟩ := hrel
    have Hbw := hid (bel_go Hb.out HB1.out)
    by_cases hlt : k < tx.length
    · have hlt' : (k : Int) < (tx.length : Nat) := by omega
      obtain ⟨bb, off, rfl, j1, j2⟩ := Hb4.out (by omega)
      obtain ⟨c0, c1, c2, c3, c4, m0, m1, m2, m3, m4, hx⟩ := j2 k hlt
      have m0 := (Hbw.out.cell (p := ⟨bb, off + k * 5, none⟩) j1).trans m0
      have m1 := (Hbw.out.cell (p := ⟨bb, off + k * 5 + 1, none⟩) j1).trans m1
      have m2 := (Hbw.out.cell (p := ⟨bb, off + k * 5 + 2, none⟩) j1).trans m2
      have m3 := (Hbw.out.cell (p := ⟨bb, off + k * 5 + 3, none⟩) j1).trans m3
      have m4 := (Hbw.out.cell (p := ⟨bb, off + k * 5 + 4, none⟩) j1).trans m4
      have Hs1 := hid (any_take_succ (fun x => !fewT x) tx k hlt hany.out)
      have Hs2 := hid (any_of_at (fun x => !fewT x) tx k hlt)
      generalize tx[k] = x at *
      obtain ⟨pe, ce, pm, cm, ea, ⟨_, _, e5, k1, k2, -, -⟩, ⟨_, _, e6, k3, k4, -, -⟩, -⟩ := hx
      have ea' := agg5 ea
      obtain ⟨rfl, rfl, rfl, rfl, rfl⟩ := ea'
      cases e5; cases e6
      unfold maxLen at k2 k4
      have bt := below1 wr (.cells #[.int .i64 x.op, .slice pe x.args.length ce, .bool x.neg, .slice pm x.words.length cm, .int .i64 x.sym] 39)
      have Hbt := hid (Hb.out.trans (bt.mono Hb.out.size))
      clear j2 hany ea bt
      cases h70 : decide ((70 : Int) < (x.args.length : Nat))
      · cases h8 : decide ((8 : Int) < (x.words.length : Nat))
        · have Hf := hid (show (!fewT x) = false by
            unfold fewT
            rw [show decide (x.args.length ≤ 70) = true by have := of_decide_eq_false h70; simp; omega, show decide (x.words.length ≤ 8) = true by have := of_decide_eq_false h8; simp; omega]; rfl)
          go_wp2_with fail
          go_roundw
          case rel => exact ⟨k + 1, by omega, rfl, hid (Hs1.out Hf.out), Hbt⟩
          case measure => simp [intOf]; omega
        · have Hf := hid (show r = false by
            rw [HR.out, List.all_eq_not_any_not, Hs2.out (by
              show (!fewT x) = true
              unfold fewT
              rw [show decide (x.words.length ≤ 8) = false by have := of_decide_eq_true h8; simp; omega]; simp)]; rfl)
          go_wp2_with fail
          go_ret
          exact ⟨by rw [Hf.out]; rfl, bel_go Hbt.out HB1.out⟩
      · have Hf := hid (show r = false by
          rw [HR.out, List.all_eq_not_any_not, Hs2.out (by
            show (!fewT x) = true
            unfold fewT
            rw [show decide (x.args.length ≤ 70) = false by have := of_decide_eq_true h70; simp; omega]; simp)]; rfl)
        go_wp2_with fail
        go_ret
        exact ⟨by rw [Hf.out]; rfl, bel_go Hbt.out HB1.out⟩
    · have hkk : k = tx.length := by omega
      subst hkk
      have Hf := hid (show r = true by rw [HR.out, List.all_eq_not_any_not]; have := hany.out; rw [List.take_length] at this; rw [this]; rfl)
      go_wp2_with fail
      go_ret
      exact ⟨by rw [Hf.out]; rfl, Hbw.out⟩
theorem few_tm {sy : List Sy} {tx : List Tx} (h : plFew sy tx = true) : ∀ x ∈ tx, x.args.length ≤ 70 ∧ x.words.length ≤ 8 := by
  unfold plFew at h
  simp only [Bool.and_eq_true, List.all_eq_true] at h
  intro x hx
  have := h.2 x hx
  unfold fewT at this
  simpa using this
theorem few_sz (x : Tx) (h : x.words.length ≤ 8) (hs : Small W x.words) : sz W x.tm.num.natAbs ≤ 8 := by
  show sz W (sg x.neg (val W x.words)).natAbs ≤ 8
  rw [sg_natAbs]
  exact Nat.le_trans (sz_val W2 hs) h
theorem TxsIn.small {w : World} {v : Value} {l : List Tx} (h : TxsIn w v l) : ∀ x ∈ l, Small W x.words := by
  obtain ⟨p, cap, rfl, h1, h2, h3, h4⟩ := h
  intro x hx
  obtain ⟨i, hi, rfl⟩ := List.mem_iff_getElem.1 hx
  obtain ⟨b, off, -, -, hc⟩ := h4 (by omega)
  obtain ⟨c0, c1, c2, c3, c4, -, -, -, -, -, ⟨_, _, _, _, _, _, _, hs⟩⟩ := hc i hi
  exact hs
set_option maxRecDepth 100000 in
set_option maxHeartbeats 12800000 in
theorem lawChecks_any (va vb : Value) (sy : List Sy) (tx : List Tx) (w : World) (htab : Tb w.heap.size w) (hs : SyIn w va sy) (ht : TxsIn w vb tx) (hn : ∀ s ∈ sy, s.name.length ≤ 281474976710656) :
    Calls Tryd.prog 5 #[.agg #[va, vb]] w (RBool true w) := by
  have Hs := hid hs; have Ht := hid ht; have Htab := hid htab
  have hsm := ht.small
  obtain ⟨pa, ca, rfl, -, -, -, -⟩ := hs
  obtain ⟨pb, cb, rfl, -, -, -, -⟩ := ht
  have bx := below1 w (.cells #[.slice pa sy.length ca, .slice pb tx.length cb] 27)
  have hx0 := heap_alloc_new w (.cells #[.slice pa sy.length ca, .slice pb tx.length cb] 27)
  have Hfx := hid (fixed_any w.heap.size _ bx.size (Lib.TabBelow.on htab bx))
  have hz := size_alloc w (.cells #[.slice pa sy.length ca, .slice pb tx.length cb] 27)
  clear htab
  go_enter Tryd.func5, Tryd.ntmps5
  go_wp2_with fail
  generalize hW : (w.alloc (.cells #[.slice pa sy.length ca, .slice pb tx.length cb] 27)) = W1 at *
  clear hW
  refine Hfx.out.mono ?_
  rintro e w2 ⟨rfl, b2⟩
  have hx2 := (b2.block w.heap.size (by omega)).trans hx0
  have bw2 := bel_go b2 bx
  have hz2 := b2.size
  have q := two_cells hx2
  have Hfew := hid (RFew_any _ _ sy tx w2 (Hs.out.below bw2) (Ht.out.below bw2))
  have Hb2 := hid bw2
  obtain ⟨z0, z1, -, -⟩ := q
  clear b2 bx hx0 Hfx bw2
  go_wp2_with fail
  refine Hfew.out.mono ?_
  rintro e w3 ⟨rfl, b3⟩
  clear z0 z1 Hfew
  have hx3 := (b3.block w.heap.size (by omega)).trans hx2
  have Hb3 := hid (bel_go b3 Hb2.out)
  have hz3 := b3.size
  clear b3 hx2
  cases hfew : plFew sy tx
  case false =>
    go_wp2
    go_ret
    exact ⟨rfl, Hb3.out⟩
  case true =>
  have hft := few_tm hfew
  have htm := Ht.out.tms fun x hx => Nat.le_trans (hft x hx).2 (by decide)
  have Hck := hid (fun w' (hb : Below w3.heap.size w3 w') => Check_any w.heap.size _ _ sy (tx.map Tx.tm) w' (bel_go hb Hb3.out).size (Lib.TabBelow.on Htab.out (bel_go hb Hb3.out)) (Hs.out.below (bel_go hb Hb3.out)) (htm.below (bel_go hb Hb3.out)) hn (fun t h => by
    obtain ⟨x, hx, rfl⟩ := List.mem_map.1 h
    exact Nat.le_trans (hft x hx).1 (by decide)))
  have Hrk := hid (fun w' (hb : Below w3.heap.size w3 w') => RCheck_any _ _ sy (tx.map Tx.tm) w' (Hs.out.below (bel_go hb Hb3.out)) (htm.below (bel_go hb Hb3.out)) (fun t h => by
    obtain ⟨x, hx, rfl⟩ := List.mem_map.1 h
    exact Nat.le_trans (few_sz x (hft x hx).2 (hsm x hx)) (by decide)))
  have Hx3 := hid hx3
  clear hft htm hfew hx3 hn hsm
  generalize plCheck sy (tx.map Tx.tm) = er at *
  have HS : Hid (∀ w', Below w3.heap.size w3 w' → w'.cell? ⟨w.heap.size, 0, none⟩ = some (.slice pa sy.length ca) ∧ w'.cell? ⟨w.heap.size, 1, none⟩ = some (.slice pb tx.length cb) ∧ Below w3.heap.size w3 w') := hid fun w' hb =>
    ⟨(two_cells ((hb.block w.heap.size (by omega)).trans Hx3.out)).1, (two_cells ((hb.block w.heap.size (by omega)).trans Hx3.out)).2.1, hb⟩
  go_upto_region 5 with fail
  go_region_held3 (fun w' => w'.cell? ⟨w.heap.size, 0, none⟩ = some (.slice pa sy.length ca) ∧ w'.cell? ⟨w.heap.size, 1, none⟩ = some (.slice pb tx.length cb) ∧ Below w3.heap.size w3 w')
    (first | exact HS.out _ (Below.drew (Below.refl _ _)) | (refine HS.out _ (bel_go hb ?_); go_split_ands; assumption))
    (first
      | (go_at_call 22; (with_reducible refine (Hck.out _ (by go_split_ands; assumption)).mono ?_); rintro e wa ⟨rfl, hb⟩)
      | (go_at_call 23; (with_reducible refine (Hrk.out _ (by go_split_ands; assumption)).mono ?_); rintro e wb ⟨rfl, hb⟩))
  go_split_ands
  have HBb := hid (show Below w3.heap.size w3 wb by assumption)
  clear hb
  go_wp2
  go_ret
  exact ⟨by simp, bel_go HBb.out Hb3.out⟩
end Go.Proofs.YthheafjilbeddaaDoor
