/- Texts put together: RfMem, RkGreat. -/
import Derived.Test.YtmimmckhnomcdaaRankNilCardM1
/- The reference's rank in memory. -/
namespace Go.Proofs.Ytmimmckhnomcdaa
open Go.RowKit Big

def bools (l : List Bool) : List Value := l.map Value.bool
theorem bools_length (l : List Bool) : (bools l).length = l.length := by simp [bools]
def OwnB (w : World) (v : Value) (l : List Bool) : Prop := w.ownsRow 0 4 1 v l.length (bools l)
theorem OwnB.cells0 {w : World} {v : Value} {l : List Bool} (h : OwnB w v l) (h0 : 0 < l.length) :
    ∃ g cap, v = .slice (some ⟨g, 0, none⟩) l.length cap ∧ l.length ≤ cap ∧ cap ≤ maxLen ∧ (∀ i, i < l.length → w.cell? ⟨g, i, none⟩ = some (.bool (wt0 l i))) ∧ ∀ i, w.frozen? ⟨g, i, none⟩ = false := by
  have h' := h
  unfold OwnB at h'
  rcases h'.2 with ⟨rfl, h1⟩ | ⟨g, cap, cur, rfl, _, hg, hn, hm, _, _⟩
  · omega
  · refine ⟨g, cap, rfl, hn, hm, fun i hi => ?_, fun i => World.ownsRow.frozenAt h' i⟩
    rw [World.ownsRow.cellAt h' i (by omega)]
    simp [bools, wt0, hi]
theorem OwnB.store {w : World} {g n cap : Nat} {l : List Bool} (h : OwnB w (.slice (some ⟨g, 0, none⟩) n cap) l) (i : Nat) (x : Bool) : OwnB (w.setCell ⟨g, i, none⟩ (.bool x)) (.slice (some ⟨g, 0, none⟩) n cap) (l.set i x) := by
  unfold OwnB at h ⊢
  obtain ⟨p, c, hv⟩ := ownsRow_shape h
  obtain rfl : n = l.length := by injection hv
  have := (World.ownsRow.stored h i (.bool x)).1
  rw [show (bools l).set i (.bool x) = bools (l.set i x) by unfold bools; rw [List.map_set]] at this
  rw [List.length_set]
  exact this
structure RfM (w : World) (S : Nat → Prop) (s : Nat) (vw vb : Value) (rk : Rk) : Prop where
  own : S s
  cell : w.heap[s]? = some (.cells #[vw, vb, .int .u64 (rk.st : Nat)] 48 (0, 0))
  weights : Own w 0 34 .u64 vw rk.ws
  weightsIn : InS S vw
  waits : OwnB w vb rk.wt
  waitsIn : InS S vb
variable {w w0 w' : World} {S S' : Nat → Prop} {s : Nat} {vw vb : Value} {rk : Rk}
theorem RfM.lt (H : RfM w S s vw vb rk) : s < w.heap.size := (Array.getElem?_eq_some_iff.1 H.cell).1
theorem RfM.stays (H : RfM w S s vw vb rk) (hS : ∀ k, S k → S' k) (hb : ∀ k, S k → k < w.heap.size → w'.heap[k]? = w.heap[k]?) : RfM w' S' s vw vb rk :=
  ⟨hS s H.own, (hb s H.own H.lt).trans H.cell, row_stays H.weights fun k hk => hb k (H.weightsIn k hk) (World.ownsRow.lt H.weights k hk).2, H.weightsIn.mono hS, row_stays H.waits fun k hk => hb k (H.waitsIn k hk) (World.ownsRow.lt H.waits k hk).2, H.waitsIn.mono hS⟩
theorem RfM.below (H : RfM w S s vw vb rk) (hb : Below w.heap.size w w') : RfM w' S s vw vb rk := H.stays (fun _ h => h) fun k _ hk => hb.block k hk
theorem RfM.bound (H : RfM w S s vw vb rk) : RfM w (fun k => S k ∧ k < w.heap.size) s vw vb rk := by
  have hin : ∀ {b e s v n} {xs : List Value}, w.ownsRow b e s v n xs → InS S v → InS (fun k => S k ∧ k < w.heap.size) v := fun h hi k hk => ⟨hi k hk, (World.ownsRow.lt h k hk).2⟩
  exact ⟨⟨H.own, H.lt⟩, H.cell, H.weights, hin H.weights H.weightsIn, H.waits, hin H.waits H.waitsIn⟩
theorem RfM.newW (H : RfM w0 S s vw vb rk) {v' : Value} {q' : List Nat} (hA : Apart (fun k => vw.ownBlock = some k) w0 w) (hrow : Own w 0 34 .u64 v' q')
    (hv : v'.ownBlock = vw.ownBlock ∨ ∀ k, v'.ownBlock = some k → w0.heap.size ≤ k) (hI : InS S v') : RfM (w.setCell ⟨s, 0, none⟩ v') S s v' vb { rk with ws := q' } := by
  have hqr := row_ne H.weights H.cell (by decide)
  have hg : w.heap[s]? = w0.heap[s]? := hA.block s H.lt fun e => hqr s e rfl
  have E : ∀ k, k < w0.heap.size → k ≠ s → vw.ownBlock ≠ some k → (w.setCell ⟨s, 0, none⟩ v').heap[k]? = w0.heap[k]? := fun k hk hne ho => (Below.heap_setCell _ _ _ _ hne).trans (hA.block k hk ho)
  refine ⟨H.own, ?_, ?_, hI, row_stays H.waits fun k hk => E k (World.ownsRow.lt H.waits k hk).2 (row_ne H.waits H.cell (by decide) k hk) (row_apart_type H.waits H.weights (by decide) k hk), H.waitsIn⟩
  · have := heap_setCell_same w s 0 _ _ v' (hg.trans H.cell)
    simpa using this
  · refine row_stays hrow fun k hk => Below.heap_setCell _ _ _ _ ?_
    rcases hv with e | h
    · exact hqr k (by rw [← e]; exact hk)
    · have := h k hk
      have := H.lt
      show k ≠ s
      omega
theorem RfM.newB (H : RfM w0 S s vw vb rk) {v' : Value} {q' : List Bool} (hA : Apart (fun k => vb.ownBlock = some k) w0 w) (hrow : OwnB w v' q')
    (hv : v'.ownBlock = vb.ownBlock ∨ ∀ k, v'.ownBlock = some k → w0.heap.size ≤ k) (hI : InS S v') : RfM (w.setCell ⟨s, 1, none⟩ v') S s vw v' { rk with wt := q' } := by
  have hqr := row_ne H.waits H.cell (by decide)
  have hg : w.heap[s]? = w0.heap[s]? := hA.block s H.lt fun e => hqr s e rfl
  have E : ∀ k, k < w0.heap.size → k ≠ s → vb.ownBlock ≠ some k → (w.setCell ⟨s, 1, none⟩ v').heap[k]? = w0.heap[k]? := fun k hk hne ho => (Below.heap_setCell _ _ _ _ hne).trans (hA.block k hk ho)
  refine ⟨H.own, ?_, row_stays H.weights fun k hk => E k (World.ownsRow.lt H.weights k hk).2 (row_ne H.weights H.cell (by decide) k hk) (row_apart_type H.weights H.waits (by decide) k hk), H.weightsIn, ?_, hI⟩
  · have := heap_setCell_same w s 1 _ _ v' (hg.trans H.cell)
    simpa using this
  · refine row_stays hrow fun k hk => Below.heap_setCell _ _ _ _ ?_
    rcases hv with e | h
    · exact hqr k (by rw [← e]; exact hk)
    · have := h k hk
      have := H.lt
      show k ≠ s
      omega
theorem RfM.newSt (H : RfM w S s vw vb rk) (x : Nat) : RfM (w.setCell ⟨s, 2, none⟩ (.int .u64 (x : Nat))) S s vw vb { rk with st := x } := by
  have E : ∀ k, k ≠ s → (w.setCell ⟨s, 2, none⟩ (.int .u64 (x : Nat))).heap[k]? = w.heap[k]? := fun k hne => Below.heap_setCell _ _ _ _ hne
  refine ⟨H.own, ?_, row_stays H.weights fun k hk => E k (row_ne H.weights H.cell (by decide) k hk), H.weightsIn, row_stays H.waits fun k hk => E k (row_ne H.waits H.cell (by decide) k hk), H.waitsIn⟩
  have := heap_setCell_same w s 2 _ _ (.int .u64 (x : Nat)) H.cell
  simpa using this
theorem RfM.setW {g n cap : Nat} (H : RfM w S s (.slice (some ⟨g, 0, none⟩) n cap) vb rk) (i x : Nat) (hi : i < rk.ws.length) : RfM (w.setCell ⟨g, i, none⟩ (.int .u64 (x : Nat))) S s (.slice (some ⟨g, 0, none⟩) n cap) vb { rk with ws := rk.ws.set i x } := by
  have E : ∀ k, k ≠ g → (w.setCell ⟨g, i, none⟩ (.int .u64 (x : Nat))).heap[k]? = w.heap[k]? := fun k hne => Below.heap_setCell _ _ _ _ hne
  have hgr : g ≠ s := row_ne H.weights H.cell (by decide) g rfl
  refine ⟨H.own, (E s (Ne.symm hgr)).trans H.cell, H.weights.store i x hi, H.weightsIn, row_stays H.waits fun k hk => E k ?_, H.waitsIn⟩
  rintro rfl; exact row_apart_type H.waits H.weights (by decide) k hk rfl
theorem RfM.setB {g n cap : Nat} (H : RfM w S s vw (.slice (some ⟨g, 0, none⟩) n cap) rk) (i : Nat) (x : Bool) : RfM (w.setCell ⟨g, i, none⟩ (.bool x)) S s vw (.slice (some ⟨g, 0, none⟩) n cap) { rk with wt := rk.wt.set i x } := by
  have E : ∀ k, k ≠ g → (w.setCell ⟨g, i, none⟩ (.bool x)).heap[k]? = w.heap[k]? := fun k hne => Below.heap_setCell _ _ _ _ hne
  have hgr : g ≠ s := row_ne H.waits H.cell (by decide) g rfl
  refine ⟨H.own, (E s (Ne.symm hgr)).trans H.cell, row_stays H.weights fun k hk => E k ?_, H.weightsIn, H.waits.store i x, H.waitsIn⟩
  rintro rfl; exact row_apart_type H.weights H.waits (by decide) k hk rfl
theorem RfM.three (H : RfM w S s vw vb rk) : (w.cell? ⟨s, 0, none⟩ = some vw ∧ w.cell? ⟨s, 1, none⟩ = some vb ∧ w.cell? ⟨s, 2, none⟩ = some (.int .u64 (rk.st : Nat))) ∧ ∀ j, w.frozen? ⟨s, j, none⟩ = false := by
  refine ⟨?_, fun j => frozen_of_row w s j _ _ H.cell⟩
  simp [World.cell?, H.cell]
/-- numbers in bounds -/
structure RkSmall (rk : Rk) : Prop where
  len : rk.wt.length = rk.ws.length
  small : ∀ i, at0 rk.ws i < 1152921504606846976
  step : 1 ≤ rk.st ∧ rk.st ≤ 576460752303423488
  few : rk.ws.length ≤ 1000000
theorem RkGood.num {rk : Rk} {q pl : List Nat} (h : RkGood rk q pl) : RkSmall rk := ⟨h.len, h.small, h.step, h.few⟩
theorem RkAt.num {r : Nat} (h : RkAt w S r rk) : RkSmall rk := by
  obtain ⟨⟨_, _, _, _, _, _, _, hg, _⟩, _⟩ := h
  exact hg.num
def RfAt (w : World) (S : Nat → Prop) (s : Nat) (rk : Rk) : Prop := (∃ vw vb, RfM w S s vw vb rk) ∧ ∀ k, S k → k < w.heap.size
theorem RfAt.apart {T : Nat → Prop} (h : RfAt w S s rk) (hb : Apart T w w') (hn : ∀ k, S k → ¬ T k) : RfAt w' S s rk := by
  obtain ⟨⟨vw, vb, H⟩, hS⟩ := h
  exact ⟨⟨vw, vb, H.stays (fun _ h => h) (fun k hk hl => hb.block k hl (hn k hk))⟩, fun k hk => Nat.lt_of_lt_of_le (hS k hk) hb.size⟩
theorem RfAt.below (h : RfAt w S s rk) (hb : Below w.heap.size w w') : RfAt w' S s rk := by
  obtain ⟨⟨vw, vb, H⟩, hS⟩ := h
  exact ⟨⟨vw, vb, H.below hb⟩, fun k hk => Nat.lt_of_lt_of_le (hS k hk) hb.size⟩
def RRf (S : Nat → Prop) (s : Nat) (rk : Rk) (w : World) (e : Ending) (w' : World) : Prop := e = .returned (.tuple #[]) ∧ RfAt w' S s rk ∧ Apart S w w'
set_option maxRecDepth 100000 in
set_option maxHeartbeats 1600000 in
theorem fHas_any (H : RfM w S s vw vb rk) (hl : rk.wt.length = rk.ws.length) (v : Int) :
    Calls Try.prog 27 #[.pointer (some ⟨s, 0, none⟩), .int .i64 v] w (RSame1 (.bool (rkHas rk v)) w) := by
  obtain ⟨⟨-, c1, -⟩, -⟩ := H.three
  obtain ⟨p, c, rfl⟩ := ownsRow_shape H.waits
  unfold rkHas
  rw [hl] at c1
  by_cases h1 : 1 ≤ v
  · have t1 : decide (1 ≤ v) = true := decide_eq_true h1
    rw [t1, Bool.true_and]
    generalize rk.ws.length = N at *
    generalize hb : decide (v ≤ (N : Int)) = b
    have Hb := hid hb
    clear hb H hl
    go_enter Try.func27, Try.ntmps27
    go_wp2
    go_ret
    exact ⟨by rw [← Hb.out]; rfl, rfl⟩
  · have t1 : decide (1 ≤ v) = false := decide_eq_false h1
    rw [t1, Bool.false_and]
    clear H hl
    go_enter Try.func27, Try.ntmps27
    go_wp2
    go_ret
    exact ⟨rfl, rfl⟩
set_option maxRecDepth 100000 in
set_option maxHeartbeats 1600000 in
theorem fWeight_any (h : RfAt w S s rk) (hn : RkSmall rk) (v : Int) :
    Calls Try.prog 22 #[.pointer (some ⟨s, 0, none⟩), .int .i64 v] w (RSame1 (.int .u64 (rkWeight rk v : Nat)) w) := by
  obtain ⟨⟨vw, vb, H⟩, -⟩ := h
  have hh := fHas_any H hn.len v
  unfold rkWeight
  cases hb : rkHas rk v
  · rw [hb] at hh
    have Hh := hid hh
    clear H hh hb hn
    go_enter Try.func22, Try.ntmps22
    go_wp2_with fail
    refine Hh.out.mono ?_
    rintro e w1 ⟨rfl, rfl⟩
    go_wp2
    go_ret
    exact ⟨rfl, rfl⟩
  · rw [hb] at hh
    have hf := hn.few
    obtain ⟨k, rfl, hk, e2⟩ := rkHas_mk hb
    have hk9 : k ≤ 1000000 := by omega
    obtain ⟨⟨c0, -, -⟩, -⟩ := H.three
    obtain ⟨gw, kw, rfl, hw1, hw2, -, mw, -⟩ := H.weights.cells0 (by omega)
    have m1 := mw k hk
    rw [if_pos rfl, e2]
    have Hh := hid hh
    generalize at0 rk.ws k = x at *
    generalize rk.ws.length = N at *
    clear H hh hb mw hf e2 hn
    go_enter Try.func22, Try.ntmps22
    go_wp2_with fail
    refine Hh.out.mono ?_
    rintro e w1 ⟨rfl, rfl⟩
    go_wp2
    go_ret
    exact ⟨rfl, rfl⟩
set_option maxRecDepth 100000 in
set_option maxHeartbeats 1600000 in
theorem fPut_any (h : RfAt w S s rk) (hn : RkSmall rk) (v : Int) :
    Calls Try.prog 18 #[.pointer (some ⟨s, 0, none⟩), .int .i64 v] w (RRf S s (rkPut rk v) w) := by
  have h0 := h
  obtain ⟨⟨vw, vb, H⟩, hS⟩ := h
  have hh := fHas_any H hn.len v
  unfold rkPut
  cases hb : rkHas rk v
  · rw [hb] at hh
    have Hh := hid hh; have H0 := hid h0
    clear H hh hb hn hS h0
    go_enter Try.func18, Try.ntmps18
    go_wp2_with fail
    refine Hh.out.mono ?_
    rintro e w1 ⟨rfl, rfl⟩
    go_wp2_with fail
    go_end0
    exact ⟨rfl, H0.out, Apart.refl _ _⟩
  · rw [hb] at hh
    have hf := hn.few
    have hl := hn.len
    obtain ⟨k, rfl, hk, e2⟩ := rkHas_mk hb
    have hk9 : k ≤ 1000000 := by omega
    obtain ⟨⟨-, c1, -⟩, -⟩ := H.three
    obtain ⟨gb, kb, rfl, hb1, hb2, mb, fb⟩ := H.waits.cells0 (by omega)
    have m1 := mb k (by omega)
    have f1 := fb k
    have hkl : k < rk.wt.length := by omega
    rw [if_pos rfl, e2]
    have Hh := hid hh
    have H2 := hid (H.setB k true)
    have A2 := hid ((Apart.refl S w).setCell (p := ⟨gb, k, none⟩) (H.waitsIn gb rfl) (.bool true))
    have HS := hid hS
    generalize wt0 rk.wt k = x at *
    generalize hN : rk.wt.length = N at *
    clear H hh hb mb hf e2 hn fb hl h0 hk hS hN
    go_enter Try.func18, Try.ntmps18
    go_wp2_with fail
    refine Hh.out.mono ?_
    rintro e w1 ⟨rfl, rfl⟩
    go_wp2_with fail
    go_end0
    exact ⟨rfl, ⟨⟨_, _, H2.out⟩, fun i hi => Nat.lt_of_lt_of_le (HS.out i hi) A2.out.size⟩, A2.out⟩
end Go.Proofs.Ytmimmckhnomcdaa
/- elenchuslaw12.RankGreat. -/
namespace Go.Proofs.Ytmimmckhnomcdaa
open Go.RowKit Big

structure GreatInv (rk : Rk) (k0 m : Nat) : Prop where
  len : rk.ws.length = 10
  wt : rk.wt = List.replicate 10 true
  oth : ∀ i, i ≠ k0 → at0 rk.ws i = 0
  zero : m = 0 → at0 rk.ws k0 = 0
  pos : 0 < m → 0 < at0 rk.ws k0
theorem GreatInv.start (k0 : Nat) : GreatInv (rkNew 10) k0 0 := by
  have h : ∀ i, at0 (rkNew 10).ws i = 0 := fun i => by
    show at0 (List.replicate 10 0) i = 0
    unfold at0
    simp only [List.getD_eq_getElem?_getD, List.getElem?_replicate]
    split <;> rfl
  exact ⟨rfl, rfl, fun i _ => h i, fun _ => h k0, fun h => absurd h (Nat.lt_irrefl 0)⟩
theorem GreatInv.step {rk : Rk} {k0 m : Nat} (h : GreatInv rk k0 m) (hk : k0 < 10) : GreatInv (bumpAt (rkDecay rk) k0) k0 (m + 1) := by
  have hs : 1 ≤ (rkDecay rk).st := by unfold rkDecay; dsimp only; omega
  have hl : k0 < (rkDecay rk).ws.length := by show k0 < rk.ws.length; rw [h.len]; exact hk
  have ha : ∀ i, at0 (addAt (rkDecay rk) k0).ws i = if i = k0 then at0 rk.ws k0 + (rkDecay rk).st else at0 rk.ws i := fun i => by
    show at0 ((rkDecay rk).ws.set k0 _) i = _
    rw [at0_set _ _ _ _ hl]; rfl
  unfold bumpAt
  split
  · next hh =>
    refine ⟨by simp [light, addAt, rkDecay, h.len], h.wt, fun i hi => ?_, fun h => by omega, fun _ => ?_⟩
    · show at0 ((addAt (rkDecay rk) k0).ws.map (· / 1073741824)) i = 0
      rw [at0_map_div, ha, if_neg hi, h.oth i hi]
    · show 0 < at0 ((addAt (rkDecay rk) k0).ws.map (· / 1073741824)) k0
      rw [at0_map_div, ha, if_pos rfl]
      have : 1152921504606846976 ≤ at0 rk.ws k0 + (rkDecay rk).st := hh
      omega
  · refine ⟨by simp [addAt, rkDecay, h.len], h.wt, fun i hi => ?_, fun h => by omega, fun _ => ?_⟩
    · rw [ha, if_neg hi, h.oth i hi]
    · rw [ha, if_pos rfl]; omega
theorem wt0_rep {k n : Nat} (h : k < n) : wt0 (List.replicate n true) k = true := by
  unfold wt0
  simp [List.getD_eq_getElem?_getD, List.getElem?_replicate, h]
theorem GreatInv.next {rk : Rk} {k0 m : Nat} (h : GreatInv rk k0 m) (hk : k0 < 10) : Next rk (if m = 0 then 1 else k0 + 1) := by
  by_cases hm : m = 0
  · rw [if_pos hm]
    have hz := h.zero hm
    refine ⟨by omega, by rw [h.len]; omega, by rw [h.wt]; exact wt0_rep (by omega), fun u h1 h2 h3 => ?_⟩
    have e : ∀ i, at0 rk.ws i = 0 := fun i => by
      by_cases hi : i = k0
      · rw [hi]; exact hz
      · exact h.oth i hi
    unfold rkLt
    rw [e, e]
    omega
  · rw [if_neg hm]
    have hp := h.pos (by omega)
    refine ⟨by omega, by rw [h.len]; omega, by rw [h.wt]; exact wt0_rep (by omega), fun u h1 h2 h3 => ?_⟩
    unfold rkLt
    rw [Nat.add_sub_cancel]
    by_cases hi : u - 1 = k0
    · rw [hi]; omega
    · rw [h.oth _ hi]; omega
theorem rkHas_at {rk : Rk} {k : Nat} (h : k < rk.ws.length) : rkHas rk ((k + 1 : Nat) : Int) = true := by
  simp only [rkHas, Bool.and_eq_true, decide_eq_true_eq]; omega
theorem rkBump_at {rk : Rk} {k : Nat} (h : k < rk.ws.length) : rkBump rk ((k + 1 : Nat) : Int) = bumpAt rk k := by
  unfold rkBump
  rw [if_pos (rkHas_at h), show (((k + 1 : Nat) : Int)).toNat - 1 = k by omega]
theorem rkPut_at {rk : Rk} {k : Nat} (h : k < rk.ws.length) : rkPut rk ((k + 1 : Nat) : Int) = putAt rk k := by
  unfold rkPut
  rw [if_pos (rkHas_at h), show (((k + 1 : Nat) : Int)).toNat - 1 = k by omega]
theorem rkWeight_at {rk : Rk} {k : Nat} (h : k < rk.ws.length) : rkWeight rk ((k + 1 : Nat) : Int) = at0 rk.ws k := by
  unfold rkWeight
  rw [if_pos (rkHas_at h), show (((k + 1 : Nat) : Int)).toNat - 1 = k by omega]
/-- a rank of the law's own, behind a call that changed it -/
theorem own_go {w w1 w2 : World} {S S2 : Nat → Prop} (hS : ∀ k, S k → w.heap.size ≤ k) (B : Below w.heap.size w w1) (h2 : ∀ k, S2 k → S k ∨ w1.heap.size ≤ k) (A : Apart S w1 w2) : (∀ k, S2 k → w.heap.size ≤ k) ∧ Below w.heap.size w w2 :=
  ⟨fun k hk => by
    rcases h2 k hk with h | h
    · exact hS k h
    · have := B.size; omega, B.trans (A.below (B := w.heap.size) B.size hS)⟩
set_option maxRecDepth 100000 in
set_option maxHeartbeats 6400000 in
theorem lawGreat_any (n v : Nat) (hn : n < 65536) (hv : v < 256) (w : World) : Calls Try.prog 6 #[.int .u16 (n : Nat), .int .u8 (v : Nat)] w (RBool true w) := by
  have H := hid (fixed_any w)
  obtain ⟨k0, hk0⟩ : ∃ k0, k0 = v % 10 := ⟨_, rfl⟩
  have hk9 : k0 < 10 := by omega
  have e0 : (1 : Int) + (v : Int) % 10 = (k0 : Int) + 1 := by omega
  have E0 := hid e0
  have Hk9 := hid hk9
  have E4 : Hid (((k0 + 1 : Nat) : Int) = (k0 : Int) + 1) := hid (by omega)
  obtain ⟨M, hM⟩ : ∃ M, M = n % 3000 := ⟨_, rfl⟩
  have hM9 : M < 3000 := by omega
  have e1 : (n : Int) % 3000 = (M : Nat) := by omega
  have E1 := hid e1
  clear hk0 e0 e1 hk9
  have HM := hid hM
  clear hM
  go_enter Try.func6, Try.ntmps6
  go_wp2_with fail
  refine H.out.mono ?_
  rintro e w1 ⟨rfl, b1⟩
  have Hn := hid (New_any 10 (by decide) w1)
  have b1 := hid b1
  go_wp2_with fail
  refine Hn.out.mono ?_
  rintro e w2 ⟨r, S, rfl, R2, hS2, B2⟩
  have hz1 := b1.out.size
  have R2 := hid R2
  have hS2' := hid (fun k hk => (by have := hS2 k hk; omega : w.heap.size ≤ k))
  have B2' := hid (bel_go B2 b1.out)
  clear Hn hS2 B2 hz1 H
  go_upto_region 5 with fail
  rw [E0.out]
  go_wp2_with fail
  rw [E1.out]
  go_loopw [18] (fun vm wr => ∃ (m : Nat) (S : Nat → Prop) (rk : Rk), vm = .int .u16 (m : Nat) ∧ m ≤ M ∧ Hid (RkAt wr S r rk) ∧ Hid (GreatInv rk k0 m) ∧ Hid (∀ k, S k → w.heap.size ≤ k) ∧ Hid (Below w.heap.size w wr)) (fun vm _ => M - (intOf vm).toNat)
  case atStart => exact ⟨0, S, rkNew 10, rfl, Nat.zero_le _, R2, hid (GreatInv.start k0), hS2', B2'⟩
  case round =>
    obtain ⟨m, S1, rk, rfl, hm, hR, hG, hS, hB⟩ := hrel
    have Hm := hid hm
    clear hm
    by_cases hmM : m < M
    · have Hd := hid (Decay_any hR.out)
      go_wp2_with fail
      refine Hd.out.mono ?_
      rintro e w3 ⟨rfl, S3, R3, hS3, A3⟩
      obtain ⟨hS3', B3⟩ := own_go hS.out hB.out hS3 A3
      have Hb := Bump_any R3 ((k0 + 1 : Nat) : Int)
      rw [rkBump_at (by show k0 < rk.ws.length; rw [hG.out.len]; exact Hk9.out)] at Hb
      rw [E4.out] at Hb
      have Hb := hid Hb; have hS3' := hid hS3'; have B3 := hid B3
      clear Hd R3 hS3 A3
      go_wp2_with fail
      refine Hb.out.mono ?_
      rintro e w4 ⟨rfl, S4, R4, hS4, A4⟩
      obtain ⟨hS4', B4⟩ := own_go hS3'.out B3.out hS4 A4
      have hG4 := hG.out.step Hk9.out
      have W4 := Weight_any R4 ((k0 + 1 : Nat) : Int)
      rw [rkWeight_at (by rw [hG4.len]; exact Hk9.out), E4.out] at W4
      have hsm := R4.num.small k0
      have hps := hG4.pos (Nat.succ_pos m)
      generalize hy : at0 (bumpAt (rkDecay rk) k0).ws k0 = y at W4 hsm hps
      have t1 : decide ((1152921504606846976 : Int) ≤ (y : Int)) = false := decide_eq_false (by omega)
      have t2 : ((y : Int) == 0) = false := by simp; omega
      have W4 := hid W4; have hS4' := hid hS4'; have B4 := hid B4; have hG4 := hid hG4; have R4 := hid R4
      clear Hb hS4 A4 hy hsm hps hS3' B3
      go_wp2_with fail
      refine W4.out.mono ?_
      rintro e w5 ⟨rfl, rfl⟩
      go_wp2_with fail
      refine W4.out.mono ?_
      rintro e w5 ⟨rfl, rfl⟩
      go_wp2_with fail
      go_roundw
      case rel => exact ⟨m + 1, S4, _, by go_num, by omega, R4, hG4, hS4', B4⟩
      case measure => simp [intOf]; omega
    · obtain rfl : m = M := by have := Hm.out; omega
      have P := hid (Pop_next hR.out (hG.out.next Hk9.out))
      have hS := hS; have hB := hB
      by_cases hm0 : m = 0
      · subst hm0
        rw [if_pos rfl] at P
        have P : Hid (Calls Try.prog 19 #[.pointer (some ⟨r, 0, none⟩)] wr fun e w' => e = .returned (.tuple #[.int .i64 1, .bool true]) ∧ Apart S1 wr w') := hid (P.out.mono fun e w' ⟨h1, _, h3⟩ => ⟨h1, h3⟩)
        have t3 : (((n : Int) % 3000) == 0) = true := by have := HM.out; simp; omega
        clear hM9 hmM
        by_cases hk00 : k0 = 0
        · subst hk00
          go_wp2_with fail
          refine P.out.mono ?_
          rintro e w3 ⟨rfl, A3⟩
          have B3 := hid (hB.out.trans (A3.below (B := w.heap.size) hB.out.size hS.out))
          clear A3 P t3
          go_wp2_with fail
          go_ret
          exact ⟨rfl, B3.out⟩
        · have t0 : ((1 : Int) == (k0 : Int) + 1) = false := by simp; omega
          clear hk00
          go_wp2_with fail
          refine P.out.mono ?_
          rintro e w3 ⟨rfl, A3⟩
          have B3 := hid (hB.out.trans (A3.below (B := w.heap.size) hB.out.size hS.out))
          clear A3 P
          go_wp2_with fail
          go_ret
          exact ⟨rfl, B3.out⟩
      · rw [if_neg hm0] at P
        go_wp2_with fail
        refine P.out.mono ?_
        rintro e w3 ⟨rfl, R3, A3⟩
        have B3 := hid (hB.out.trans (A3.below (B := w.heap.size) hB.out.size hS.out))
        clear R3 A3 P
        go_wp2_with fail
        go_ret
        exact ⟨rfl, B3.out⟩
end Go.Proofs.Ytmimmckhnomcdaa
