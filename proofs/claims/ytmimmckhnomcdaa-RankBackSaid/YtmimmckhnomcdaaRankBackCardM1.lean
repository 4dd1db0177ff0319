/- Texts put together: RfMem, RfCalls, RfBump, RfPop, RkPlays, RkOpen, RkGreat, RkFalls, RkRun, RkBack. -/
import Derived.Test.YtmimmckhnomcdaaRankNilCardM1
import Derived.Deep.DeepHandedRow
import Derived.ProofKit
import Derived.OpenShut
import Derived.ChangeSlices
import Derived.ChangeSame
/- The reference's rank in memory. -/
namespace Go.Proofs.Ytmimmckhnomcdaa
open Go.RowKit Big

def bools (l : List Bool) : List Value := l.map Value.bool
theorem bools_length (l : List Bool) : (bools l).length = l.length := by simp [bools]
def OwnB (w : World) (v : Value) (l : List Bool) : Prop := w.ownsRow 0 4 1 v l.length (bools l)
theorem OwnB.cells0 {w : World} {v : Value} {l : List Bool} (h : OwnB w v l) (h0 : 0 < l.length) :
    ∃ g cap, v = .slice (some ⟨g, 0, none⟩) l.length cap ∧ l.length ≤ cap ∧ cap ≤ maxLen ∧ (∀ i, i < l.length → w.cell? ⟨g, i, none⟩ = some (.bool (wt0 l i))) ∧ ∀ i, w.frozen? ⟨g, i, none⟩ = false := by
  have h' := h
  unfold OwnB at h'
  rcases h'.2 with ⟨rfl, h1⟩ | ⟨g, cap, cur, rfl, _, hg, hn, hm, _, _⟩
  · omega
  · refine ⟨g, cap, rfl, hn, hm, fun i hi => ?_, fun i => World.ownsRow.frozenAt h' i⟩
    rw [World.ownsRow.cellAt h' i (by omega)]
    simp [bools, wt0, hi]
theorem OwnB.store {w : World} {g n cap : Nat} {l : List Bool} (h : OwnB w (.slice (some ⟨g, 0, none⟩) n cap) l) (i : Nat) (x : Bool) : OwnB (w.setCell ⟨g, i, none⟩ (.bool x)) (.slice (some ⟨g, 0, none⟩) n cap) (l.set i x) := by
  unfold OwnB at h ⊢
  obtain ⟨p, c, hv⟩ := ownsRow_shape h
  obtain rfl : n = l.length := by injection hv
  have := (World.ownsRow.stored h i (.bool x)).1
  rw [show (bools l).set i (.bool x) = bools (l.set i x) by unfold bools; rw [List.map_set]] at this
  rw [List.length_set]
  exact this
structure RfM (w : World) (S : Nat → Prop) (s : Nat) (vw vb : Value) (rk : Rk) : Prop where
  own : S s
  cell : w.heap[s]? = some (.cells #[vw, vb, .int .u64 (rk.st : Nat)] 48 (0, 0))
  weights : Own w 0 34 .u64 vw rk.ws
  weightsIn : InS S vw
  waits : OwnB w vb rk.wt
  waitsIn : InS S vb
variable {w w0 w' : World} {S S' : Nat → Prop} {s : Nat} {vw vb : Value} {rk : Rk}
theorem RfM.lt (H : RfM w S s vw vb rk) : s < w.heap.size := (Array.getElem?_eq_some_iff.1 H.cell).1
theorem RfM.stays (H : RfM w S s vw vb rk) (hS : ∀ k, S k → S' k) (hb : ∀ k, S k → k < w.heap.size → w'.heap[k]? = w.heap[k]?) : RfM w' S' s vw vb rk :=
  ⟨hS s H.own, (hb s H.own H.lt).trans H.cell, row_stays H.weights fun k hk => hb k (H.weightsIn k hk) (World.ownsRow.lt H.weights k hk).2, H.weightsIn.mono hS, row_stays H.waits fun k hk => hb k (H.waitsIn k hk) (World.ownsRow.lt H.waits k hk).2, H.waitsIn.mono hS⟩
theorem RfM.below (H : RfM w S s vw vb rk) (hb : Below w.heap.size w w') : RfM w' S s vw vb rk := H.stays (fun _ h => h) fun k _ hk => hb.block k hk
theorem RfM.bound (H : RfM w S s vw vb rk) : RfM w (fun k => S k ∧ k < w.heap.size) s vw vb rk := by
  have hin : ∀ {b e s v n} {xs : List Value}, w.ownsRow b e s v n xs → InS S v → InS (fun k => S k ∧ k < w.heap.size) v := fun h hi k hk => ⟨hi k hk, (World.ownsRow.lt h k hk).2⟩
  exact ⟨⟨H.own, H.lt⟩, H.cell, H.weights, hin H.weights H.weightsIn, H.waits, hin H.waits H.waitsIn⟩
theorem RfM.newW (H : RfM w0 S s vw vb rk) {v' : Value} {q' : List Nat} (hA : Apart (fun k => vw.ownBlock = some k) w0 w) (hrow : Own w 0 34 .u64 v' q')
    (hv : v'.ownBlock = vw.ownBlock ∨ ∀ k, v'.ownBlock = some k → w0.heap.size ≤ k) (hI : InS S v') : RfM (w.setCell ⟨s, 0, none⟩ v') S s v' vb { rk with ws := q' } := by
  have hqr := row_ne H.weights H.cell (by decide)
  have hg : w.heap[s]? = w0.heap[s]? := hA.block s H.lt fun e => hqr s e rfl
  have E : ∀ k, k < w0.heap.size → k ≠ s → vw.ownBlock ≠ some k → (w.setCell ⟨s, 0, none⟩ v').heap[k]? = w0.heap[k]? := fun k hk hne ho => (Below.heap_setCell _ _ _ _ hne).trans (hA.block k hk ho)
  refine ⟨H.own, ?_, ?_, hI, row_stays H.waits fun k hk => E k (World.ownsRow.lt H.waits k hk).2 (row_ne H.waits H.cell (by decide) k hk) (row_apart_type H.waits H.weights (by decide) k hk), H.waitsIn⟩
  · have := heap_setCell_same w s 0 _ _ v' (hg.trans H.cell)
    simpa using this
  · refine row_stays hrow fun k hk => Below.heap_setCell _ _ _ _ ?_
    rcases hv with e | h
    · exact hqr k (by rw [← e]; exact hk)
    · have := h k hk
      have := H.lt
      show k ≠ s
      omega
theorem RfM.newB (H : RfM w0 S s vw vb rk) {v' : Value} {q' : List Bool} (hA : Apart (fun k => vb.ownBlock = some k) w0 w) (hrow : OwnB w v' q')
    (hv : v'.ownBlock = vb.ownBlock ∨ ∀ k, v'.ownBlock = some k → w0.heap.size ≤ k) (hI : InS S v') : RfM (w.setCell ⟨s, 1, none⟩ v') S s vw v' { rk with wt := q' } := by
  have hqr := row_ne H.waits H.cell (by decide)
  have hg : w.heap[s]? = w0.heap[s]? := hA.block s H.lt fun e => hqr s e rfl
  have E : ∀ k, k < w0.heap.size → k ≠ s → vb.ownBlock ≠ some k → (w.setCell ⟨s, 1, none⟩ v').heap[k]? = w0.heap[k]? := fun k hk hne ho => (Below.heap_setCell _ _ _ _ hne).trans (hA.block k hk ho)
  refine ⟨H.own, ?_, row_stays H.weights fun k hk => E k (World.ownsRow.lt H.weights k hk).2 (row_ne H.weights H.cell (by decide) k hk) (row_apart_type H.weights H.waits (by decide) k hk), H.weightsIn, ?_, hI⟩
  · have := heap_setCell_same w s 1 _ _ v' (hg.trans H.cell)
    simpa using this
  · refine row_stays hrow fun k hk => Below.heap_setCell _ _ _ _ ?_
    rcases hv with e | h
    · exact hqr k (by rw [← e]; exact hk)
    · have := h k hk
      have := H.lt
      show k ≠ s
      omega
theorem RfM.newSt (H : RfM w S s vw vb rk) (x : Nat) : RfM (w.setCell ⟨s, 2, none⟩ (.int .u64 (x : Nat))) S s vw vb { rk with st := x } := by
  have E : ∀ k, k ≠ s → (w.setCell ⟨s, 2, none⟩ (.int .u64 (x : Nat))).heap[k]? = w.heap[k]? := fun k hne => Below.heap_setCell _ _ _ _ hne
  refine ⟨H.own, ?_, row_stays H.weights fun k hk => E k (row_ne H.weights H.cell (by decide) k hk), H.weightsIn, row_stays H.waits fun k hk => E k (row_ne H.waits H.cell (by decide) k hk), H.waitsIn⟩
  have := heap_setCell_same w s 2 _ _ (.int .u64 (x : Nat)) H.cell
  simpa using this
theorem RfM.setW {g n cap : Nat} (H : RfM w S s (.slice (some ⟨g, 0, none⟩) n cap) vb rk) (i x : Nat) (hi : i < rk.ws.length) : RfM (w.setCell ⟨g, i, none⟩ (.int .u64 (x : Nat))) S s (.slice (some ⟨g, 0, none⟩) n cap) vb { rk with ws := rk.ws.set i x } := by
  have E : ∀ k, k ≠ g → (w.setCell ⟨g, i, none⟩ (.int .u64 (x : Nat))).heap[k]? = w.heap[k]? := fun k hne => Below.heap_setCell _ _ _ _ hne
  have hgr : g ≠ s := row_ne H.weights H.cell (by decide) g rfl
  refine ⟨H.own, (E s (Ne.symm hgr)).trans H.cell, H.weights.store i x hi, H.weightsIn, row_stays H.waits fun k hk => E k ?_, H.waitsIn⟩
  rintro rfl; exact row_apart_type H.waits H.weights (by decide) k hk rfl
theorem RfM.setB {g n cap : Nat} (H : RfM w S s vw (.slice (some ⟨g, 0, none⟩) n cap) rk) (i : Nat) (x : Bool) : RfM (w.setCell ⟨g, i, none⟩ (.bool x)) S s vw (.slice (some ⟨g, 0, none⟩) n cap) { rk with wt := rk.wt.set i x } := by
  have E : ∀ k, k ≠ g → (w.setCell ⟨g, i, none⟩ (.bool x)).heap[k]? = w.heap[k]? := fun k hne => Below.heap_setCell _ _ _ _ hne
  have hgr : g ≠ s := row_ne H.waits H.cell (by decide) g rfl
  refine ⟨H.own, (E s (Ne.symm hgr)).trans H.cell, row_stays H.weights fun k hk => E k ?_, H.weightsIn, H.waits.store i x, H.waitsIn⟩
  rintro rfl; exact row_apart_type H.weights H.waits (by decide) k hk rfl
theorem RfM.three (H : RfM w S s vw vb rk) : (w.cell? ⟨s, 0, none⟩ = some vw ∧ w.cell? ⟨s, 1, none⟩ = some vb ∧ w.cell? ⟨s, 2, none⟩ = some (.int .u64 (rk.st : Nat))) ∧ ∀ j, w.frozen? ⟨s, j, none⟩ = false := by
  refine ⟨?_, fun j => frozen_of_row w s j _ _ H.cell⟩
  simp [World.cell?, H.cell]
/-- numbers in bounds -/
structure RkSmall (rk : Rk) : Prop where
  len : rk.wt.length = rk.ws.length
  small : ∀ i, at0 rk.ws i < 1152921504606846976
  step : 1 ≤ rk.st ∧ rk.st ≤ 576460752303423488
  few : rk.ws.length ≤ 1000000
theorem RkGood.num {rk : Rk} {q pl : List Nat} (h : RkGood rk q pl) : RkSmall rk := ⟨h.len, h.small, h.step, h.few⟩
theorem RkAt.num {r : Nat} (h : RkAt w S r rk) : RkSmall rk := by
  obtain ⟨⟨_, _, _, _, _, _, _, hg, _⟩, _⟩ := h
  exact hg.num
def RfAt (w : World) (S : Nat → Prop) (s : Nat) (rk : Rk) : Prop := (∃ vw vb, RfM w S s vw vb rk) ∧ ∀ k, S k → k < w.heap.size
theorem RfAt.apart {T : Nat → Prop} (h : RfAt w S s rk) (hb : Apart T w w') (hn : ∀ k, S k → ¬ T k) : RfAt w' S s rk := by
  obtain ⟨⟨vw, vb, H⟩, hS⟩ := h
  exact ⟨⟨vw, vb, H.stays (fun _ h => h) (fun k hk hl => hb.block k hl (hn k hk))⟩, fun k hk => Nat.lt_of_lt_of_le (hS k hk) hb.size⟩
theorem RfAt.below (h : RfAt w S s rk) (hb : Below w.heap.size w w') : RfAt w' S s rk := by
  obtain ⟨⟨vw, vb, H⟩, hS⟩ := h
  exact ⟨⟨vw, vb, H.below hb⟩, fun k hk => Nat.lt_of_lt_of_le (hS k hk) hb.size⟩
def RRf (S : Nat → Prop) (s : Nat) (rk : Rk) (w : World) (e : Ending) (w' : World) : Prop := e = .returned (.tuple #[]) ∧ RfAt w' S s rk ∧ Apart S w w'
set_option maxRecDepth 100000 in
set_option maxHeartbeats 1600000 in
theorem fHas_any (H : RfM w S s vw vb rk) (hl : rk.wt.length = rk.ws.length) (v : Int) :
    Calls Try.prog 27 #[.pointer (some ⟨s, 0, none⟩), .int .i64 v] w (RSame1 (.bool (rkHas rk v)) w) := by
  obtain ⟨⟨-, c1, -⟩, -⟩ := H.three
  obtain ⟨p, c, rfl⟩ := ownsRow_shape H.waits
  unfold rkHas
  rw [hl] at c1
  by_cases h1 : 1 ≤ v
  · have t1 : decide (1 ≤ v) = true := decide_eq_true h1
    rw [t1, Bool.true_and]
    generalize rk.ws.length = N at *
    generalize hb : decide (v ≤ (N : Int)) = b
    have Hb := hid hb
    clear hb H hl
    go_enter Try.func27, Try.ntmps27
    go_wp2
    go_ret
    exact ⟨by rw [← Hb.out]; rfl, rfl⟩
  · have t1 : decide (1 ≤ v) = false := decide_eq_false h1
    rw [t1, Bool.false_and]
    clear H hl
    go_enter Try.func27, Try.ntmps27
    go_wp2
    go_ret
    exact ⟨rfl, rfl⟩
set_option maxRecDepth 100000 in
set_option maxHeartbeats 1600000 in
theorem fWeight_any (h : RfAt w S s rk) (hn : RkSmall rk) (v : Int) :
    Calls Try.prog 22 #[.pointer (some ⟨s, 0, none⟩), .int .i64 v] w (RSame1 (.int .u64 (rkWeight rk v : Nat)) w) := by
  obtain ⟨⟨vw, vb, H⟩, -⟩ := h
  have hh := fHas_any H hn.len v
  unfold rkWeight
  cases hb : rkHas rk v
  · rw [hb] at hh
    have Hh := hid hh
    clear H hh hb hn
    go_enter Try.func22, Try.ntmps22
    go_wp2_with fail
    refine Hh.out.mono ?_
    rintro e w1 ⟨rfl, rfl⟩
    go_wp2
    go_ret
    exact ⟨rfl, rfl⟩
  · rw [hb] at hh
    have hf := hn.few
    obtain ⟨k, rfl, hk, e2⟩ := rkHas_mk hb
    have hk9 : k ≤ 1000000 := by omega
    obtain ⟨⟨c0, -, -⟩, -⟩ := H.three
    obtain ⟨gw, kw, rfl, hw1, hw2, -, mw, -⟩ := H.weights.cells0 (by omega)
    have m1 := mw k hk
    rw [if_pos rfl, e2]
    have Hh := hid hh
    generalize at0 rk.ws k = x at *
    generalize rk.ws.length = N at *
    clear H hh hb mw hf e2 hn
    go_enter Try.func22, Try.ntmps22
    go_wp2_with fail
    refine Hh.out.mono ?_
    rintro e w1 ⟨rfl, rfl⟩
    go_wp2
    go_ret
    exact ⟨rfl, rfl⟩
set_option maxRecDepth 100000 in
set_option maxHeartbeats 1600000 in
theorem fPut_any (h : RfAt w S s rk) (hn : RkSmall rk) (v : Int) :
    Calls Try.prog 18 #[.pointer (some ⟨s, 0, none⟩), .int .i64 v] w (RRf S s (rkPut rk v) w) := by
  have h0 := h
  obtain ⟨⟨vw, vb, H⟩, hS⟩ := h
  have hh := fHas_any H hn.len v
  unfold rkPut
  cases hb : rkHas rk v
  · rw [hb] at hh
    have Hh := hid hh; have H0 := hid h0
    clear H hh hb hn hS h0
    go_enter Try.func18, Try.ntmps18
    go_wp2_with fail
    refine Hh.out.mono ?_
    rintro e w1 ⟨rfl, rfl⟩
    go_wp2_with fail
    go_end0
    exact ⟨rfl, H0.out, Apart.refl _ _⟩
  · rw [hb] at hh
    have hf := hn.few
    have hl := hn.len
    obtain ⟨k, rfl, hk, e2⟩ := rkHas_mk hb
    have hk9 : k ≤ 1000000 := by omega
    obtain ⟨⟨-, c1, -⟩, -⟩ := H.three
    obtain ⟨gb, kb, rfl, hb1, hb2, mb, fb⟩ := H.waits.cells0 (by omega)
    have m1 := mb k (by omega)
    have f1 := fb k
    have hkl : k < rk.wt.length := by omega
    rw [if_pos rfl, e2]
    have Hh := hid hh
    have H2 := hid (H.setB k true)
    have A2 := hid ((Apart.refl S w).setCell (p := ⟨gb, k, none⟩) (H.waitsIn gb rfl) (.bool true))
    have HS := hid hS
    generalize wt0 rk.wt k = x at *
    generalize hN : rk.wt.length = N at *
    clear H hh hb mb hf e2 hn fb hl h0 hk hS hN
    go_enter Try.func18, Try.ntmps18
    go_wp2_with fail
    refine Hh.out.mono ?_
    rintro e w1 ⟨rfl, rfl⟩
    go_wp2_with fail
    go_end0
    exact ⟨rfl, ⟨⟨_, _, H2.out⟩, fun i hi => Nat.lt_of_lt_of_le (HS.out i hi) A2.out.size⟩, A2.out⟩
end Go.Proofs.Ytmimmckhnomcdaa
/- The reference's Decay, Grow, New. -/
namespace Go.Proofs.Ytmimmckhnomcdaa
open Go.RowKit Big

set_option maxRecDepth 100000 in
set_option maxHeartbeats 3200000 in
theorem fDecay_any {w : World} {S : Nat → Prop} {s : Nat} {rk : Rk} (h : RfAt w S s rk) (hn : RkSmall rk) :
    Calls Try.prog 16 #[.pointer (some ⟨s, 0, none⟩)] w (RRf S s (rkDecay rk) w) := by
  obtain ⟨⟨vw, vb, H⟩, hS⟩ := h
  obtain ⟨⟨-, -, c2⟩, yf⟩ := H.three
  have f2 := yf 2
  have hst := hn.step
  obtain ⟨x, hx⟩ : ∃ x, x = min (rk.st + rk.st / 16 + 1) 576460752303423488 := ⟨_, rfl⟩
  have H2 := hid (H.newSt x)
  have A2 := hid ((Apart.refl S w).setCell (p := ⟨s, 2, none⟩) H.own (.int .u64 (x : Nat)))
  have hs9 := hst.2
  have Hx := hid hx
  have HS := hid hS
  have Hd : Hid (rkDecay rk = { rk with st := x }) := hid (by unfold rkDecay; rw [hx])
  generalize rk.st = t at *
  clear H yf hst hx hn hS
  go_enter Try.func16, Try.ntmps16
  have e : (if (t : Int) + (t : Int) / 16 + 1 < 576460752303423488 then (t : Int) + (t : Int) / 16 + 1 else 576460752303423488) = ((x : Nat) : Int) := by have := Hx.out; split <;> omega
  have E := hid e
  clear e
  go_wp2_with fail
  go_region
  rw [E.out]
  go_end0
  rw [Hd.out]
  exact ⟨rfl, ⟨⟨_, _, H2.out.below (below_drewN (Below.refl _ _) 1)⟩, fun i hi => Nat.lt_of_lt_of_le (HS.out i hi) A2.out.size⟩, A2.out.drew⟩
def RfGrow (S : Nat → Prop) (s : Nat) (rk : Rk) (w : World) (e : Ending) (w' : World) : Prop :=
  e = .returned (.int .i64 (rk.ws.length + 1 : Nat)) ∧ ∃ S', RfAt w' S' s (rkGrow rk) ∧ (∀ k, S' k → S k ∨ w.heap.size ≤ k) ∧ Apart S w w'
theorem infoB : (Try.prog.info? 4).map (fun i => (i.zero, i.size, i.bytes)) = some (some (.bool false), 1, 1) := by kernel_rfl
theorem bools_snoc (l : List Bool) (b : Bool) : bools l ++ [.bool b] = bools (l ++ [b]) := by simp [bools]
set_option maxRecDepth 100000 in
set_option maxHeartbeats 6400000 in
theorem fGrow_any {w : World} {S : Nat → Prop} {s : Nat} {rk : Rk} (h : RfAt w S s rk) (hl : rk.wt.length = rk.ws.length) (h9 : rk.ws.length < 900000) :
    Calls Try.prog 12 #[.pointer (some ⟨s, 0, none⟩)] w (RfGrow S s rk w) := by
  obtain ⟨⟨vw, vb, H⟩, hS⟩ := h
  obtain ⟨⟨c0, -, -⟩, yf⟩ := H.three
  have f0 := yf 0
  obtain ⟨pw, kw, rfl⟩ := ownsRow_shape H.weights
  obtain ⟨iu, hiu, hu0, hu1, hu2⟩ := info_parts infoU
  obtain ⟨ii, hii, hi0, hi1, hi2⟩ := info_parts infoB
  obtain ⟨N, hN⟩ : ∃ N, N = rk.ws.length := ⟨_, rfl⟩
  have HN := hid hN
  rw [← hN] at c0 h9 H
  have HH := hid H; have HS := hid hS; have Hl := hid hl
  have hu := hid hiu; have hi := hid hii
  have Hu := hid (show iu.zero = some (.int .u64 0) ∧ iu.size = 1 ∧ iu.bytes = 8 from ⟨hu0, hu1, hu2⟩)
  have Hi := hid (show ii.zero = some (.bool false) ∧ ii.size = 1 ∧ ii.bytes = 1 from ⟨hi0, hi1, hi2⟩)
  clear H hS hN yf hu0 hu1 hu2 hi0 hi1 hi2 hiu hii hl
  have b1 := below1 w (.cells #[.int .u64 0] 34)
  have H1 := HH.out.below b1
  have Hrow1 : Hid ((w.alloc (.cells #[.int .u64 0] 34)).ownsRow 0 34 1 (.slice pw N kw) N (ints .u64 rk.ws)) := hid (by have h := H1.weights; unfold Own at h; rw [← HN.out] at h; exact h)
  have HS1 : Hid (∀ w', Apart (fun k => (Value.slice pw N kw).ownBlock = some k) (w.alloc (.cells #[.int .u64 0] 34)) w' → w'.cell? ⟨s, 0, none⟩ = some (.slice pw N kw) ∧ w'.frozen? ⟨s, 0, none⟩ = false) := hid fun w' hA => by
    have hr := (hA.block s H1.lt (fun e => row_ne H1.weights H1.cell (by decide) s e rfl)).trans H1.cell
    exact ⟨by simp [World.cell?, hr], frozen_of_row w' s 0 _ _ hr⟩
  have H1 := hid H1; have b1 := hid b1
  go_enter Try.func12, Try.ntmps12
  go_wp2_with (at_builtin; refine wpList_append_one rfl _ _ 43 rfl 0 34 iu (.int .u64 0) 8 Try.underlying43 hu.out Hu.out.1 Hu.out.2.1 Hu.out.2.2 rfl (.slice pw N kw) N (ints .u64 rk.ws) rfl Hrow1.out w.heap.size (.int .u64 0) 34 rfl (heap_alloc_new _ _) rfl (by simp [maxLen]; omega) (by omega) (Nat.zero_le _) ?_)
  intro v1 w1 ho1 hA1 hv1
  have hc1 := HS1.out w1 hA1
  obtain ⟨d0, d1⟩ := hc1
  obtain ⟨p1, k1, e1⟩ := ownsRow_shape ho1
  subst e1
  have Ho1 := hid ho1; have HA1 := hid hA1; have Hv1 := hid hv1
  clear ho1 hA1 hv1 c0 f0
  go_upto_region 2 with fail
  clear d0 d1
  have ho1 := Ho1.out; have hA1 := HA1.out; have hv1 : (Value.slice p1 (N + 1) k1).ownBlock = (Value.slice pw N kw).ownBlock ∨ ∀ k, (Value.slice p1 (N + 1) k1).ownBlock = some k → (w.alloc (.cells #[.int .u64 0] 34)).heap.size ≤ k := Hv1.out.imp id fun h k hk => by have := h k hk; simpa using this
  clear Ho1 HA1 Hv1
  have hrow2 : Own w1 0 34 .u64 (.slice p1 (N + 1) k1) (rk.ws ++ [0]) := by
    unfold Own
    rw [List.length_append, List.length_singleton, ← HN.out, ← ints_snoc]
    exact ho1
  have hz1 : w.heap.size < (w.alloc (.cells #[.int .u64 0] 34)).heap.size := by simp
  have H2 := (H1.out.stays (S' := Wide S w.heap.size) (fun k h => .inl h) (fun _ _ _ => rfl)).newW (v' := .slice p1 (N + 1) k1) (q' := rk.ws ++ [0]) hA1 hrow2 hv1 (fun k hk => by
    rcases hv1 with e | h
    · exact .inl (H1.out.weightsIn k (by rw [← e]; exact hk))
    · exact .inr (by have := h k hk; omega))
  have A2 : Apart S w (w1.setCell ⟨s, 0, none⟩ (.slice p1 (N + 1) k1)) := ((Apart.of_below b1.out).go (hA1.mono fun k hk => H1.out.weightsIn k hk)).setCell (p := ⟨s, 0, none⟩) H1.out.own _
  clear ho1 hA1 hv1 hrow2 HS1 Hrow1 H1 HH b1
  generalize hW2 : w1.setCell ⟨s, 0, none⟩ (.slice p1 (N + 1) k1) = W2 at *
  clear hW2
  obtain ⟨⟨-, c2, -⟩, yf⟩ := H2.three
  have f2 := yf 1
  clear yf
  obtain ⟨pp, kp, rfl⟩ := ownsRow_shape H2.waits
  have hlp : rk.wt.length = N := by rw [HN.out]; exact Hl.out
  change RfM W2 _ s _ (.slice pp rk.wt.length kp) _ at H2
  change W2.cell? _ = some (.slice pp rk.wt.length kp) at c2
  rw [hlp] at c2 H2
  have b3 := below1 W2 (.cells #[.bool true] 4)
  have H3 := H2.below b3
  have Hrow3 : Hid ((W2.alloc (.cells #[.bool true] 4)).ownsRow 0 4 1 (.slice pp N kp) N (bools rk.wt)) := hid (hlp ▸ H3.waits)
  have HS3 : Hid (∀ w', Apart (fun k => (Value.slice pp N kp).ownBlock = some k) (W2.alloc (.cells #[.bool true] 4)) w' → w'.cell? ⟨s, 1, none⟩ = some (.slice pp N kp) ∧ w'.frozen? ⟨s, 1, none⟩ = false) := hid fun w' hA => by
    have hr := (hA.block s H3.lt (fun e => row_ne H3.waits H3.cell (by decide) s e rfl)).trans H3.cell
    exact ⟨by simp [World.cell?, hr], frozen_of_row w' s 1 _ _ hr⟩
  have H3 := hid H3; have b3 := hid b3; have A2 := hid A2
  have Hlp := hid hlp
  clear H2 hlp
  go_wp2_with (at_builtin; refine wpList_append_one rfl _ _ 46 rfl 0 4 ii (.bool false) 1 Try.underlying46 hi.out Hi.out.1 Hi.out.2.1 Hi.out.2.2 rfl (.slice pp N kp) N (bools rk.wt) rfl Hrow3.out W2.heap.size (.bool true) 4 rfl (heap_alloc_new _ _) rfl (by simp [maxLen]; omega) (by omega) (Nat.zero_le _) ?_)
  intro v3 w3 ho3 hA3 hv3
  have hc3 := HS3.out w3 hA3
  obtain ⟨d2, d1⟩ := hc3
  obtain ⟨p3, k3, e3⟩ := ownsRow_shape ho3
  subst e3
  have Ho3 := hid ho3; have HA3 := hid hA3; have Hv3 := hid hv3
  clear ho3 hA3 hv3 c2 f2
  go_upto_region 3 with fail
  have ho3 := Ho3.out; have hA3 := HA3.out; have hv3 : (Value.slice p3 (N + 1) k3).ownBlock = (Value.slice pp N kp).ownBlock ∨ ∀ k, (Value.slice p3 (N + 1) k3).ownBlock = some k → (W2.alloc (.cells #[.bool true] 4)).heap.size ≤ k := Hv3.out.imp id fun h k hk => by have := h k hk; simpa using this
  clear Ho3 HA3 Hv3 d2 d1
  have hz2 := A2.out.size
  have hz3 : W2.heap.size < (W2.alloc (.cells #[.bool true] 4)).heap.size := by simp
  have hrow4 : OwnB w3 (.slice p3 (N + 1) k3) (rk.wt ++ [true]) := by
    unfold OwnB
    rw [List.length_append, List.length_singleton, Hlp.out, ← bools_snoc]
    exact ho3
  have H4 := H3.out.newB (v' := .slice p3 (N + 1) k3) (q' := rk.wt ++ [true]) hA3 hrow4 hv3 (fun k hk => by
    rcases hv3 with e | h
    · exact H3.out.waitsIn k (by rw [← e]; exact hk)
    · exact .inr (by have := h k hk; omega))
  have A4 : Apart S w (w3.setCell ⟨s, 1, none⟩ (.slice p3 (N + 1) k3)) := ⟨(hA3.os.trans b3.out.os).trans A2.out.os, (hA3.tape.trans b3.out.tape).trans A2.out.tape, (hA3.output.trans b3.out.output).trans A2.out.output, by
      have := hA3.size; have := b3.out.size; simp; omega, fun k hk hn => by
    have hkr : k ≠ s := by
      rintro rfl
      rcases H3.out.own with h | h
      · exact hn h
      · omega
    have hkp : (Value.slice pp N kp).ownBlock ≠ some k := fun e => by
      rcases H3.out.waitsIn k e with h | h
      · exact hn h
      · omega
    exact ((Below.heap_setCell _ _ _ _ hkr).trans (hA3.block k (by omega) hkp)).trans ((b3.out.block k (by omega)).trans (A2.out.block k hk hn))⟩
  obtain ⟨⟨-, x1, -⟩, -⟩ := H4.three
  have hz4 := A4.size
  have R4 := hid (show RfAt (w3.setCell ⟨s, 1, none⟩ (.slice p3 (N + 1) k3)) (fun k => Wide S w.heap.size k ∧ k < (w3.setCell ⟨s, 1, none⟩ (.slice p3 (N + 1) k3)).heap.size) s (rkGrow rk) from ⟨⟨_, _, H4.bound⟩, fun k hk => hk.2⟩)
  have A4 := hid A4
  clear H4 hrow4 ho3 hA3 hv3 HS3 Hrow3 H3 b3 A2 hz2 hz3 hz1
  generalize hW4 : w3.setCell ⟨s, 1, none⟩ (.slice p3 (N + 1) k3) = W4 at *
  clear hW4
  go_wp2
  go_ret
  exact ⟨by rw [← HN.out]; rfl, _, R4.out, fun k hk => hk.1, A4.out⟩
def RfNew (c : Nat) (w : World) (e : Ending) (w' : World) : Prop := ∃ s S, e = .returned (.pointer (some ⟨s, 0, none⟩)) ∧ RfAt w' S s (rkNew c) ∧ (∀ k, S k → w.heap.size ≤ k) ∧ Below w.heap.size w w'
theorem RfAt.start (w : World) : RfAt (w.alloc (.cells #[.slice none 0 0, .slice none 0 0, .int .u64 1] 48)) (fun k => k = w.heap.size) w.heap.size (rkNew 0) :=
  ⟨⟨.slice none 0 0, .slice none 0 0, ⟨rfl, heap_alloc_new _ _, Own.nil _ _ _ _, (fun k hk => by cases hk), World.ownsRow_nil _ _ _ _, fun k hk => by cases hk⟩⟩, fun k hk => by subst hk; simp⟩
set_option maxRecDepth 100000 in
set_option maxHeartbeats 3200000 in
theorem fNew_any (n : Int) (hn : n ≤ 4096) (w : World) : Calls Try.prog 10 #[.int .i64 n] w (RfNew n.toNat w) := by
  have h0 := hid (RfAt.start w)
  have b0 := hid (below1 w (.cells #[.slice none 0 0, .slice none 0 0, .int .u64 1] 48))
  go_enter Try.func10, Try.ntmps10
  go_wp2_with fail
  generalize hW : w.alloc (.cells #[.slice none 0 0, .slice none 0 0, .int .u64 1] 48) = W1 at *
  clear hW
  go_loopw [4] (fun vk wr => ∃ (k : Nat) (S : Nat → Prop), vk = .int .i64 (k : Nat) ∧ k ≤ n.toNat ∧ Hid (RfAt wr S w.heap.size (rkNew k)) ∧ Hid (∀ k, S k → w.heap.size ≤ k) ∧ Hid (Below w.heap.size w wr)) (fun vk _ => (n - intOf vk).toNat)
  case atStart => exact ⟨0, _, rfl, Nat.zero_le _, h0, hid (fun k hk => by omega), b0⟩
  case round =>
    obtain ⟨k, S, rfl, hk, hR, hS, hB⟩ := hrel
    by_cases hkn : (k : Int) < n
    · have Hg := hid (fGrow_any hR.out (by simp [rkNew]) (by show (List.replicate k 0).length < _; rw [List.length_replicate]; omega))
      have t1 : decide ((k : Int) < n) = true := decide_eq_true hkn
      have t2 : decide ((k : Int) < 4096) = true := decide_eq_true (by omega)
      go_wp2_with fail
      refine Hg.out.mono ?_
      rintro e w2 ⟨rfl, S2, R2, hS2, A2⟩
      rw [rkGrow_new] at R2
      have hz := hB.out.size
      have R2 := hid R2
      have B2 := hid (hB.out.trans (A2.below (B := w.heap.size) hz hS.out))
      have hS2' := hid (fun k hk => (by rcases hS2 k hk with h | h; exact hS.out k h; omega : w.heap.size ≤ k))
      clear Hg hS2 A2
      go_wp2_with fail
      go_roundw
      case rel => exact ⟨k + 1, S2, by go_num, by omega, R2, hS2', B2⟩
      case measure => simp [intOf]; omega
    · obtain rfl : k = n.toNat := by omega
      have t1 : decide (((n.toNat : Nat) : Int) < n) = false := decide_eq_false hkn
      go_wp2_with fail
      go_ret
      exact ⟨w.heap.size, S, rfl, hR.out, hS.out, hB.out⟩
end Go.Proofs.Ytmimmckhnomcdaa
/- The reference's Bump. -/
namespace Go.Proofs.Ytmimmckhnomcdaa
open Go.RowKit Big

set_option maxRecDepth 100000 in
set_option maxHeartbeats 6400000 in
theorem fBump_any {w : World} {S : Nat → Prop} {s : Nat} {rk : Rk} (h : RfAt w S s rk) (hn : RkSmall rk) (v : Int) :
    Calls Try.prog 14 #[.pointer (some ⟨s, 0, none⟩), .int .i64 v] w (RRf S s (rkBump rk v) w) := by
  have h0 := h
  obtain ⟨⟨vw, vb, H⟩, hS⟩ := h
  have hh := fHas_any H hn.len v
  unfold rkBump
  cases hb : rkHas rk v
  · rw [hb] at hh
    have Hh := hid hh; have H0 := hid h0
    clear H hh hb hn hS h0
    go_enter Try.func14, Try.ntmps14
    go_wp2_with fail
    refine Hh.out.mono ?_
    rintro e w1 ⟨rfl, rfl⟩
    go_wp2_with fail
    go_end0
    exact ⟨rfl, H0.out, Apart.refl _ _⟩
  · rw [hb] at hh
    have hf := hn.few
    obtain ⟨k, rfl, hk, e2⟩ := rkHas_mk hb
    have hk9 : k ≤ 1000000 := by omega
    rw [if_pos rfl, e2]
    obtain ⟨⟨c0, -, c2⟩, -⟩ := H.three
    obtain ⟨gw, kw, rfl, hw1, hw2, -, mw, fw⟩ := H.weights.cells0 (by omega)
    have m1 := mw k hk
    have f1 := fw k
    have hst := hn.step.2
    have hx9 := hn.small k
    have hgs : gw ≠ s := row_ne H.weights H.cell (by decide) gw rfl
    have hsg := Ne.symm hgs
    have hax : at0 (addAt rk k).ws k = at0 rk.ws k + rk.st := by
      show at0 (rk.ws.set k _) k = _
      rw [at0_set _ _ _ _ hk, if_pos rfl]
    have H2 := H.setW k (at0 rk.ws k + rk.st) hk
    have A2 := ((Apart.refl S w).setCell (p := ⟨gw, k, none⟩) (H.weightsIn gw rfl) (.int .u64 (at0 rk.ws k + rk.st : Nat)))
    change RfM _ S s _ _ (addAt rk k) at H2
    have hci : ((at0 rk.ws k + rk.st : Nat) : Int) = (at0 rk.ws k : Int) + (rk.st : Int) := by omega
    rw [hci] at H2 A2
    have Hh := hid hh; have HS := hid hS; have Hn := hid hn; have Hk := hid hk; have H2 := hid H2; have A2 := hid A2; have Hax := hid hax
    obtain ⟨N, hN⟩ : ∃ N, N = rk.ws.length := ⟨_, rfl⟩
    have HN := hid hN
    rw [← hN] at c0 hw1 hk H2
    have hN9 : N ≤ 1000000 := by omega
    obtain ⟨x, hx⟩ : ∃ x, x = at0 rk.ws k := ⟨_, rfl⟩
    obtain ⟨t, ht⟩ : ∃ t, t = rk.st := ⟨_, rfl⟩
    have Hx := hid hx; have Ht := hid ht
    rw [← hx] at m1 hx9 H2 A2
    rw [← ht] at hst H2 A2 c2
    clear H hh hb mw hf e2 hn fw h0 hS hN hx ht hci hax
    go_enter Try.func14, Try.ntmps14
    go_wp2_with fail
    refine Hh.out.mono ?_
    rintro e w1 ⟨rfl, rfl⟩
    clear Hh
    go_upto_region 1 with fail
    go_region
    clear c0 c2 m1 f1
    have H3 : RfM (w.setCell ⟨gw, k, none⟩ (.int .u64 ((x : Int) + (t : Int)))).drew S s (.slice (some ⟨gw, 0, none⟩) N kw) vb (addAt rk k) := H2.out.below (below_drewN (Below.refl _ _) 1)
    have A3 : Apart S w (w.setCell ⟨gw, k, none⟩ (.int .u64 ((x : Int) + (t : Int)))).drew := A2.out.drew
    go_upto_region 2 with fail
    generalize hW3 : (w.setCell ⟨gw, k, none⟩ (.int .u64 ((x : Int) + (t : Int)))).drew = W3 at *
    clear hW3 H2 A2
    obtain ⟨⟨c0, -, c2⟩, -⟩ := H3.three
    have hl3 : (addAt rk k).ws.length = N := by rw [HN.out]; simp [addAt]
    have m1 := H3.weights.cellL k (by rw [hl3]; exact hk)
    rw [Hax.out, ← Hx.out, ← Ht.out] at m1
    obtain ⟨y, hy⟩ : ∃ y, y = x + t := ⟨_, rfl⟩
    rw [← hy] at m1
    have hy9 : y ≤ 1729382256910270464 := by omega
    have Hy := hid hy
    have Hl3 := hid hl3
    have Hbump : Hid (bumpAt rk k = if 1152921504606846976 ≤ y then light (addAt rk k) else addAt rk k) := hid (by unfold bumpAt; rw [Hy.out, Hx.out, Ht.out])
    have H3 := hid H3; have A3 := hid A3
    clear hy hl3
    by_cases hv : 1152921504606846976 ≤ y
    · have t1 : (1152921504606846976 : Int) ≤ (y : Int) := by omega
      have Hbump := hid (Hbump.out.trans (if_pos hv))
      clear hv
      go_wp2_with fail
      clear c0 c2 m1
      go_loopw [43] (fun vi wr => ∃ (i : Nat) (L : List Nat), vi = .int .i64 (i : Nat) ∧ i ≤ N ∧ Hid (L.length = N ∧ ∀ j, at0 L j = if j < i then at0 (addAt rk k).ws j / 1073741824 else at0 (addAt rk k).ws j) ∧ Hid (RfM wr S s (.slice (some ⟨gw, 0, none⟩) N kw) vb { (addAt rk k) with ws := L }) ∧ Hid (Apart S w wr)) (fun vi _ => N - (intOf vi).toNat)
      case atStart => exact ⟨0, (addAt rk k).ws, rfl, Nat.zero_le _, hid ⟨Hl3.out, fun j => by rw [if_neg (by omega)]⟩, H3, A3⟩
      case round =>
        obtain ⟨i, L, rfl, hi, hL, hM, hA⟩ := hrel
        obtain ⟨⟨c0, -, c2⟩, f2⟩ := hM.out.three
        have f2 := f2 2
        by_cases hiN : i < N
        · have m1 := hM.out.weights.cellL i (by show i < L.length; rw [hL.out.1]; exact hiN)
          have f1 := hM.out.weights.frozen i
          change wr.cell? _ = some (.int .u64 (at0 L i : Nat)) at m1
          rw [show at0 L i = at0 (addAt rk k).ws i by rw [hL.out.2, if_neg (by omega)]] at m1
          have hx3 : at0 (addAt rk k).ws i ≤ 1729382256910270464 := by
            show at0 (rk.ws.set k _) i ≤ _
            rw [at0_set _ _ _ _ Hk.out]
            have h1 := Hn.out.small i; have h2 := Hn.out.small k; have h3 := Hn.out.step.2
            split <;> omega
          have H4 := hid (hM.out.setW i (at0 (addAt rk k).ws i / 1073741824) (by show i < L.length; rw [hL.out.1]; exact hiN))
          have A4 := hid (hA.out.setCell (p := ⟨gw, i, none⟩) (hM.out.weightsIn gw rfl) (.int .u64 (at0 (addAt rk k).ws i / 1073741824 : Nat)))
          have hL2 : Hid ((L.set i (at0 (addAt rk k).ws i / 1073741824)).length = N ∧ ∀ j, at0 (L.set i (at0 (addAt rk k).ws i / 1073741824)) j = if j < i + 1 then at0 (addAt rk k).ws j / 1073741824 else at0 (addAt rk k).ws j) := hid ⟨by rw [List.length_set]; exact hL.out.1, fun j => by
            rw [at0_set _ _ _ _ (by rw [hL.out.1]; exact hiN), hL.out.2 j]
            by_cases e : j = i
            · subst e; rw [if_pos rfl, if_pos (by omega)]
            · rw [if_neg e]
              by_cases e2 : j < i
              · rw [if_pos e2, if_pos (by omega)]
              · rw [if_neg e2, if_neg (by omega)]⟩
          obtain ⟨y2, hy2⟩ : ∃ y2, y2 = at0 (addAt rk k).ws i := ⟨_, rfl⟩
          rw [← hy2] at m1 hx3 H4 A4 hL2
          have hdv : ((y2 / 1073741824 : Nat) : Int) = (y2 : Int) / 1073741824 := by omega
          rw [hdv] at H4 A4
          clear hy2 hM hA hL c2 f2 hdv
          go_wp2_with fail
          go_region
          go_wp2_with fail
          go_roundw
          case rel => exact ⟨i + 1, _, by go_num, by omega, hL2, hid (H4.out.below (below_drewN (Below.refl _ _) 1)), hid A4.out.drew⟩
          case measure => simp [intOf]; omega
        · have hLeq : L = (addAt rk k).ws.map (· / 1073741824) := eq_of_at0 (by rw [hL.out.1, List.length_map]; exact Hl3.out.symm) (fun j hj => by
            rw [hL.out.2 j, at0_map_div, if_pos (by rw [hL.out.1] at hj; omega)])
          obtain ⟨z, hz⟩ : ∃ z, z = max (rk.st / 1073741824) 1 := ⟨_, rfl⟩
          have H4 := hM.out.newSt z
          have A4 := hid (hA.out.setCell (p := ⟨s, 2, none⟩) hM.out.own (.int .u64 (z : Nat)))
          have hfin : ({ ({ (addAt rk k) with ws := L } : Rk) with st := z } : Rk) = light (addAt rk k) := by rw [hLeq, hz]; rfl
          rw [hfin] at H4
          have H4 := hid H4
          change wr.cell? _ = some (.int .u64 (rk.st : Nat)) at c2
          rw [← Ht.out] at c2 hz
          have Hz := hid hz
          have f2' := f2
          clear hL hM hA hLeq hfin hz
          go_wp2_with fail
          all_goals
            first
            | (have e : ((t : Int) / 1073741824) = ((z : Nat) : Int) := by have := Hz.out; omega
               rw [e]; clear e)
            | (have e : (1 : Int) = ((z : Nat) : Int) := by have := Hz.out; omega
               rw [e]; clear e)
            go_end0
            rw [Hbump.out]
            exact ⟨rfl, ⟨⟨_, _, H4.out⟩, fun i hi => Nat.lt_of_lt_of_le (HS.out i hi) A4.out.size⟩, A4.out⟩
    · have t1 : ¬ ((1152921504606846976 : Int) ≤ (y : Int)) := by omega
      have Hbump := hid (Hbump.out.trans (if_neg hv))
      clear hv
      go_wp2_with fail
      go_end0
      rw [Hbump.out]
      exact ⟨rfl, ⟨⟨_, _, H3.out⟩, fun i hi => Nat.lt_of_lt_of_le (HS.out i hi) A3.out.size⟩, A3.out⟩
end Go.Proofs.Ytmimmckhnomcdaa
/- The reference's Pop. -/
namespace Go.Proofs.Ytmimmckhnomcdaa
open Go.RowKit Big

def BestTo (rk : Rk) (k : Nat) (b : Int) : Prop :=
  (b = -1 ∧ ∀ i, i < k → wt0 rk.wt i = false) ∨ (∃ j, j < k ∧ b = (j : Nat) ∧ wt0 rk.wt j = true ∧ ∀ i, i < k → wt0 rk.wt i = true → ¬ rkLt rk.ws (i + 1) (j + 1))
theorem BestTo.skip {rk : Rk} {k : Nat} {b : Int} (h : BestTo rk k b) (hw : wt0 rk.wt k = false) : BestTo rk (k + 1) b := by
  rcases h with ⟨h1, h2⟩ | ⟨j, h1, h2, h3, h4⟩
  · refine .inl ⟨h1, fun i hi => ?_⟩
    by_cases e : i = k
    · rw [e]; exact hw
    · exact h2 i (by omega)
  · refine .inr ⟨j, by omega, h2, h3, fun i hi hwi => ?_⟩
    by_cases e : i = k
    · rw [e, hw] at hwi; cases hwi
    · exact h4 i (by omega) hwi
theorem BestTo.first {rk : Rk} {k : Nat} (h : BestTo rk k (-1)) (hw : wt0 rk.wt k = true) : BestTo rk (k + 1) (k : Nat) := by
  rcases h with ⟨h1, h2⟩ | ⟨j, h1, h2, h3, h4⟩
  · refine .inr ⟨k, by omega, rfl, hw, fun i hi hwi => ?_⟩
    by_cases e : i = k
    · rw [e]; exact fun hh => (rkLt_ok rk.ws).asym _ _ hh hh
    · rw [h2 i (by omega)] at hwi; cases hwi
  · omega
theorem BestTo.more {rk : Rk} {k j : Nat} (h : BestTo rk k (j : Nat)) (hw : wt0 rk.wt k = true) (hg : at0 rk.ws j < at0 rk.ws k) : BestTo rk (k + 1) (k : Nat) := by
  rcases h with ⟨h1, h2⟩ | ⟨j', h1, h2, h3, h4⟩
  · omega
  · obtain rfl : j = j' := by omega
    refine .inr ⟨k, by omega, rfl, hw, fun i hi hwi => ?_⟩
    by_cases e : i = k
    · rw [e]; exact fun hh => (rkLt_ok rk.ws).asym _ _ hh hh
    · exact fun hh => h4 i (by omega) hwi ((rkLt_ok rk.ws).trans _ _ _ hh (.inl hg))
theorem BestTo.less {rk : Rk} {k j : Nat} (h : BestTo rk k (j : Nat)) (hg : ¬ at0 rk.ws j < at0 rk.ws k) : BestTo rk (k + 1) (j : Nat) := by
  rcases h with ⟨h1, h2⟩ | ⟨j', h1, h2, h3, h4⟩
  · omega
  · obtain rfl : j = j' := by omega
    refine .inr ⟨j, by omega, rfl, h3, fun i hi hwi => ?_⟩
    by_cases e : i = k
    · subst e
      unfold rkLt
      rw [Nat.add_sub_cancel, Nat.add_sub_cancel]
      omega
    · exact h4 i (by omega) hwi
def RfPop (S : Nat → Prop) (s : Nat) (rk : Rk) (w : World) (e : Ending) (w' : World) : Prop :=
  (e = .returned (.tuple #[.int .i64 0, .bool false]) ∧ RfAt w' S s rk ∧ Apart S w w' ∧ ∀ u, 1 ≤ u → u ≤ rk.ws.length → wt0 rk.wt (u - 1) = false) ∨
  (∃ v : Nat, e = .returned (.tuple #[.int .i64 (v : Nat), .bool true]) ∧ Next rk v ∧ RfAt w' S s (popAt rk (v - 1)) ∧ Apart S w w')
set_option maxRecDepth 100000 in
set_option maxHeartbeats 6400000 in
theorem fPop_any {w : World} {S : Nat → Prop} {s : Nat} {rk : Rk} (h : RfAt w S s rk) (hn : RkSmall rk) :
    Calls Try.prog 20 #[.pointer (some ⟨s, 0, none⟩)] w (RfPop S s rk w) := by
  have H0 := hid h
  obtain ⟨⟨vw, vb, H⟩, hS⟩ := h
  obtain ⟨⟨-, c1, -⟩, -⟩ := H.three
  obtain ⟨pb, kb, rfl⟩ := ownsRow_shape H.waits
  obtain ⟨N, hN⟩ : ∃ N, N = rk.wt.length := ⟨_, rfl⟩
  have HN := hid hN
  have hN9 : N ≤ 1000000 := by have := hn.few; have := hn.len; omega
  rw [← hN] at c1 H
  have HH := hid H; have Hn := hid hn; have HS := hid hS
  clear H hN hn hS
  go_enter Try.func20, Try.ntmps20
  go_wp2_with fail
  clear c1
  go_loopw [12, 4] (fun vk vb wr => ∃ (k : Nat) (b : Int), vk = .int .i64 (k : Nat) ∧ vb = .int .i64 b ∧ k ≤ N ∧ Hid (BestTo rk k b) ∧ Hid (Below w.heap.size w wr)) (fun vk _ _ => N - (intOf vk).toNat)
  case atStart => exact ⟨0, -1, rfl, rfl, Nat.zero_le _, hid (.inl ⟨rfl, fun i hi => by omega⟩), hid (Below.refl _ _)⟩
  case round =>
    obtain ⟨k, b, rfl, rfl, hk, hB, hw⟩ := hrel
    have hM := HH.out.below hw.out
    by_cases hkN : k < N
    · obtain ⟨gb, kb', e0, hb1, hb2, mb, fb⟩ := hM.waits.cells0 (by rw [← HN.out]; omega)
      injection e0 with e1 e2 e3
      subst e1; subst e3
      have m1 := mb k (by rw [← HN.out]; exact hkN)
      clear e2 mb fb hb1 hb2
      obtain ⟨⟨c0, -, -⟩, -⟩ := hM.three
      cases hwk : wt0 rk.wt k
      · have hB2 := hid (hB.out.skip hwk)
        rw [hwk] at m1
        clear hM hwk
        go_wp2_with fail
        go_quiet (fail)
        go_wp2_with fail
        go_roundw
        case rel => exact ⟨k + 1, b, by go_num, rfl, by omega, hB2, hid (below_drewN hw.out _)⟩
        case measure => simp [intOf]; omega
      · rw [hwk] at m1
        rcases hB.out with ⟨hb1, hb2⟩ | ⟨j, hj, hbj, hj3, hj4⟩
        · subst hb1
          have hB2 := hid (hB.out.first hwk)
          clear hM hwk hb2
          go_wp2_with fail
          go_quiet (fail)
          go_wp2_with fail
          go_roundw
          case rel => exact ⟨k + 1, (k : Nat), by go_num, rfl, by omega, hB2, hid (below_drewN hw.out _)⟩
          case measure => simp [intOf]; omega
        · subst hbj
          obtain ⟨gw, kw, rfl, hw1, hw2, -, mw, -⟩ := hM.weights.cells0 (by have := Hn.out.len; have := HN.out; omega)
          have hkl : k < rk.ws.length := by have := Hn.out.len; have := HN.out; omega
          have m2 := mw k hkl
          have m3 := mw j (by omega)
          by_cases hg : at0 rk.ws j < at0 rk.ws k
          · have hB2 := hid (hB.out.more hwk hg)
            have t1 : decide (((at0 rk.ws j : Nat) : Int) < ((at0 rk.ws k : Nat) : Int)) = true := decide_eq_true (by omega)
            have t2 : decide (((at0 rk.ws j : Nat)) < ((at0 rk.ws k : Nat))) = true := decide_eq_true hg
            have hjl : j < rk.ws.length := by omega
            generalize at0 rk.ws k = xk at *
            generalize at0 rk.ws j = xj at *
            generalize rk.ws.length = M at *
            clear hM hwk hj3 hj4 mw hg
            go_wp2_with fail
            go_quiet (fail)
            go_wp2_with fail
            go_roundw
            case rel => exact ⟨k + 1, (k : Nat), by go_num, rfl, by omega, hB2, hid (below_drewN hw.out _)⟩
            case measure => simp [intOf]; omega
          · have hB2 := hid (hB.out.less hg)
            have t1 : decide (((at0 rk.ws j : Nat) : Int) < ((at0 rk.ws k : Nat) : Int)) = false := decide_eq_false (by omega)
            have t2 : decide (((at0 rk.ws j : Nat)) < ((at0 rk.ws k : Nat))) = false := decide_eq_false hg
            have hjl : j < rk.ws.length := by omega
            generalize at0 rk.ws k = xk at *
            generalize at0 rk.ws j = xj at *
            generalize rk.ws.length = M at *
            clear hM hwk hj3 hj4 mw hg
            go_wp2_with fail
            go_quiet (fail)
            go_wp2_with fail
            go_roundw
            case rel => exact ⟨k + 1, (j : Nat), by go_num, rfl, by omega, hB2, hid (below_drewN hw.out _)⟩
            case measure => simp [intOf]; omega
    · obtain rfl : k = N := by omega
      have hA := hid (show Apart S w wr from Apart.of_below hw.out)
      rcases hB.out with ⟨hb1, hb2⟩ | ⟨j, hj, hbj, hj3, hj4⟩
      · subst hb1
        have hfin : Hid (RfPop S s rk w (.returned (.tuple #[.int .i64 0, .bool false])) wr) := hid (.inl ⟨rfl, H0.out.below hw.out, hA.out, fun u h1 h2 => hb2 (u - 1) (by have := Hn.out.len; have := HN.out; omega)⟩)
        clear hM hb2 hB
        go_wp2_with fail
        go_ret2
        exact hfin.out
      · subst hbj
        obtain ⟨gb, kb', e0, hb1, hb2, mb, fb⟩ := hM.waits.cells0 (by rw [← HN.out]; omega)
        injection e0 with e1 e2 e3
        subst e1; subst e3
        have m1 := mb j (by rw [← HN.out]; exact hj)
        have f1 := fb j
        rw [hj3] at m1
        obtain ⟨⟨-, c1, -⟩, -⟩ := hM.three
        have hNx : Hid (Next rk (j + 1)) := hid ⟨by omega, by have := Hn.out.len; have := HN.out; omega, by rw [Nat.add_sub_cancel]; exact hj3, fun u h1 h2 h3 => by
          have := hj4 (u - 1) (by have := Hn.out.len; have := HN.out; omega) h3
          rw [show u - 1 + 1 = u by omega] at this
          exact this⟩
        have H2 := hM.setB j false
        have A2 := hid (hA.out.setCell (p := ⟨gb, j, none⟩) (hM.waitsIn gb rfl) (.bool false))
        have R2 : Hid (RfAt (wr.setCell ⟨gb, j, none⟩ (.bool false)) S s (popAt rk j)) := hid ⟨⟨_, _, H2⟩, fun i hi => Nat.lt_of_lt_of_le (HS.out i hi) A2.out.size⟩
        have hfin : Hid (RfPop S s rk w (.returned (.tuple #[.int .i64 (j + 1 : Nat), .bool true])) (wr.setCell ⟨gb, j, none⟩ (.bool false))) := hid (.inr ⟨j + 1, rfl, hNx.out, by rw [Nat.add_sub_cancel]; exact R2.out, A2.out⟩)
        have E1 : Hid (((j + 1 : Nat) : Int) = (j : Int) + 1) := hid (by omega)
        rw [E1.out] at hfin
        clear hM hb1 hb2 mb fb e2 hj3 hj4 H2 A2 R2 hNx hA hB
        go_wp2_with fail
        go_ret2
        exact hfin.out
end Go.Proofs.Ytmimmckhnomcdaa
/- elenchuslaw12.RankPlays. -/
namespace Go.Proofs.Ytmimmckhnomcdaa
open Go.RowKit Big

/-- acts as they are handed in -/
structure AcIn (w : World) (v : Value) (l : List (Nat × Int)) : Prop where
  small : ∀ x ∈ l, x.1 < 256
  at_ : ∃ p cap, v = .slice p l.length cap ∧ l.length ≤ cap ∧ cap ≤ maxLen ∧ (0 < l.length → ∃ b off, p = some ⟨b, off, none⟩ ∧ b < w.heap.size ∧ ∀ i (h : i < l.length), w.cell? ⟨b, off + i * 2, none⟩ = some (.int .u8 ((l[i]'h).1 : Nat)) ∧ w.cell? ⟨b, off + i * 2 + 1, none⟩ = some (.int .i64 (l[i]'h).2))
structure Duo (w0 w : World) (r s : Nat) (rk rf : Rk) (S T : Nat → Prop) : Prop where
  R : RkAt w S r rk
  F : RfAt w T s rf
  disj : ∀ k, S k → ¬ T k
  hS : ∀ k, S k → w0.heap.size ≤ k
  hT : ∀ k, T k → w0.heap.size ≤ k
  B : Below w0.heap.size w0 w
variable {w0 w w1 w2 : World} {r s : Nat} {rk rf rk' rf' : Rk} {S T S' T' : Nat → Prop}
theorem Duo.below (h : Duo w0 w r s rk rf S T) (b : Below w.heap.size w w1) : Duo w0 w1 r s rk rf S T := ⟨h.R.below b, h.F.below b, h.disj, h.hS, h.hT, h.B.trans (b.mono h.B.size)⟩
theorem Duo.left (h : Duo w0 w r s rk rf S T) (R : RkAt w1 S' r rk') (hS : ∀ k, S' k → S k ∨ w.heap.size ≤ k) (A : Apart S w w1) : Duo w0 w1 r s rk' rf S' T :=
  ⟨R, h.F.apart A (fun k hk hs => h.disj k hs hk), fun k hk ht => by
    rcases hS k hk with h1 | h1
    · exact h.disj k h1 ht
    · have := h.F.2 k ht; omega, fun k hk => by
    rcases hS k hk with h1 | h1
    · exact h.hS k h1
    · have := h.B.size; omega, h.hT, h.B.trans (A.below (B := w0.heap.size) h.B.size h.hS)⟩
theorem Duo.right (h : Duo w0 w r s rk rf S T) (F : RfAt w1 T' s rf') (hT : ∀ k, T' k → T k ∨ w.heap.size ≤ k) (A : Apart T w w1) : Duo w0 w1 r s rk rf' S T' :=
  ⟨h.R.apart A (fun k hk hs => h.disj k hk hs), F, fun k hk ht => by
    rcases hT k ht with h1 | h1
    · exact h.disj k hk h1
    · have := h.R.2 k hk; omega, h.hS, fun k hk => by
    rcases hT k hk with h1 | h1
    · exact h.hT k h1
    · have := h.B.size; omega, h.B.trans (A.below (B := w0.heap.size) h.B.size h.hT)⟩
theorem box_cells {w : World} {b : Nat} {a c : Value} {t : TypeId} (h : w.heap[b]? = some (.cells #[a, c] t (0, 0))) : w.cell? ⟨b, 0, none⟩ = some a ∧ w.cell? ⟨b, 1, none⟩ = some c := by
  simp [World.cell?, h]
theorem Next.len {rk : Rk} {v : Nat} (h : Next rk v) : v - 1 < rk.ws.length := by have := h.pos; have := h.le; omega
theorem rkGrow_len (rk : Rk) : (rkGrow rk).ws.length = rk.ws.length + 1 := by simp [rkGrow]
theorem rkBump_len (rk : Rk) (v : Int) : (rkBump rk v).ws.length = rk.ws.length := by
  unfold rkBump bumpAt
  split
  · split <;> simp [light, addAt]
  · rfl
theorem rkPut_len (rk : Rk) (v : Int) : (rkPut rk v).ws.length = rk.ws.length := by
  unfold rkPut; split <;> rfl
set_option maxRecDepth 100000 in
set_option maxHeartbeats 12800000 in
theorem lawPlays_any (n : Int) (vl : Value) (l : List (Nat × Int)) (w : World) (hl : AcIn w vl l) : Calls Try.prog 3 #[.int .i64 n, vl] w (RBool true w) := by
  have H := hid (fixed_any w)
  obtain ⟨pl, cl, rfl, hl1, hl2, -⟩ := hl.at_
  have Hl := hid hl
  obtain ⟨L, hL⟩ : ∃ L, L = l.length := ⟨_, rfl⟩
  rw [← hL] at Hl hl1 ⊢
  have HL := hid hL
  clear hl hL
  by_cases hn : n ≤ 200
  case neg =>
    have t1 : (200 : Int) < n := by omega
    clear hn
    go_enter Try.func3, Try.ntmps3
    go_wp2_with fail
    refine H.out.mono ?_
    rintro e w1 ⟨rfl, b1⟩
    have b1 := hid b1
    go_wp2_with fail
    go_ret
    exact ⟨rfl, b1.out⟩
  case pos =>
  have t1 : decide ((200 : Int) < n) = false := decide_eq_false (by omega)
  by_cases hL4 : L ≤ 400
  case neg =>
    have t2 : decide ((400 : Int) < (L : Nat)) = true := decide_eq_true (by omega)
    have t3 : decide (400 < L) = true := decide_eq_true (by omega)
    clear hn
    go_enter Try.func3, Try.ntmps3
    go_wp2_with fail
    refine H.out.mono ?_
    rintro e w1 ⟨rfl, b1⟩
    have b1 := hid b1
    go_wp2_with fail
    go_ret
    exact ⟨rfl, b1.out⟩
  case pos =>
  have t2 : decide ((400 : Int) < (L : Nat)) = false := decide_eq_false (by omega)
  have t3 : decide (400 < L) = false := decide_eq_false (by omega)
  have hn' := hid hn
  clear hn
  go_enter Try.func3, Try.ntmps3
  go_wp2_with fail
  refine H.out.mono ?_
  rintro e w1 ⟨rfl, b1⟩
  have Hn := hid (New_any n (by have := hn'.out; omega) w1)
  have b1 := hid b1
  go_wp2_with fail
  refine Hn.out.mono ?_
  rintro e w2 ⟨r, S, rfl, R2, hS2, B2⟩
  have Hf := hid (fNew_any n (by have := hn'.out; omega) w2)
  have R2 := hid R2; have hS2 := hid hS2; have B2 := hid B2
  clear Hn
  go_wp2_with fail
  refine Hf.out.mono ?_
  rintro e w3 ⟨s, T, rfl, F3, hT3, B3⟩
  have hz1 := b1.out.size; have hz2 := B2.out.size
  have D3 := hid (show Duo w w3 r s (rkNew n.toNat) (rkNew n.toNat) S T from ⟨R2.out.below B3, F3, fun k hk ht => by have := R2.out.2 k hk; have := hT3 k ht; omega, fun k hk => by have := hS2.out k hk; omega, fun k hk => by have := hT3 k hk; omega, bel_go B3 (bel_go B2.out b1.out)⟩)
  clear F3 hT3 B3 Hf R2 hS2 B2 hz1 hz2 b1 H
  go_wp2_with fail
  go_loopw [28] (fun vi wr => ∃ (i : Nat) (S T : Nat → Prop) (rk : Rk), vi = .int .i64 (i : Nat) ∧ i ≤ L ∧ Hid (Duo w wr r s rk rk S T) ∧ Hid (rk.ws.length ≤ 200 + i)) (fun vi _ => L - (intOf vi).toNat)
  case atStart => exact ⟨0, S, T, _, rfl, Nat.zero_le _, D3, hid (by have := hn'.out; simp [rkNew]; omega)⟩
  case round =>
    obtain ⟨i, S, T, rk, rfl, hi, hD, hlen⟩ := hrel
    by_cases hiL : i < L
    case neg =>
      have hB := hid hD.out.B
      go_wp2_with fail
      go_ret
      exact ⟨rfl, hB.out⟩
    case pos =>
    obtain ⟨pp, cc, e0, -, -, hat⟩ := Hl.out.at_
    injection e0 with e1 e2 e3
    obtain ⟨b, off, rfl, hbb, hc⟩ := hat (by rw [← HL.out]; omega)
    subst e1
    clear e2 e3 hat
    have hil : i < l.length := by rw [← HL.out]; exact hiL
    obtain ⟨hc1, hc2⟩ := hc i hil
    have hkd : (l[i]'hil).1 < 256 := Hl.out.small _ (List.getElem_mem _)
    have c1 := (hD.out.B.cell (p := ⟨b, off + i * 2, none⟩) hbb).trans hc1
    have c2 := (hD.out.B.cell (p := ⟨b, off + i * 2 + 1, none⟩) hbb).trans hc2
    obtain ⟨kd, hk⟩ : ∃ kd, kd = (l[i]'hil).1 := ⟨_, rfl⟩
    obtain ⟨vv, hv⟩ : ∃ vv, vv = (l[i]'hil).2 := ⟨_, rfl⟩
    rw [← hk] at c1 hkd; rw [← hv] at c2
    have Hbb := hid hbb
    clear hc hc1 hc2 hk hv hbb hil
    have b4 := below1 wr (.cells #[.int .u8 (kd : Nat), .int .i64 vv] 29)
    have bx := heap_alloc_new wr (.cells #[.int .u8 (kd : Nat), .int .i64 vv] 29)
    have D4 := hid (hD.out.below b4)
    have bx := hid bx; have b4 := hid b4
    obtain ⟨z0, z1⟩ := box_cells bx.out
    have hx9 : Hid (∀ k, (S k ∨ T k) → k < wr.heap.size) := hid fun k hk => hk.elim (hD.out.R.2 k) (hD.out.F.2 k)
    rcases (by omega : kd % 6 = 0 ∨ kd % 6 = 1 ∨ kd % 6 = 2 ∨ kd % 6 = 3 ∨ kd % 6 = 4 ∨ kd % 6 = 5) with hm | hm | hm | hm | hm | hm
    · have em : (kd : Int) % 6 = 0 := by omega
      clear hm
      go_upto_region 13 with fail
      clear c1 c2 em
      have Hg := hid (Grow_any D4.out.R (by have := hlen.out; omega))
      clear z0 z1
      go_wp2_with fail
      refine Hg.out.mono ?_
      rintro e w5 ⟨rfl, S5, R5, hS5, A5⟩
      have D5 := D4.out.left R5 hS5 A5
      have Hf := hid (fGrow_any D5.F D4.out.R.num.len (by have := hlen.out; omega))
      have D5 := hid D5
      generalize hN : rk.ws.length = N at *
      have HN := hid hN
      clear R5 hS5 A5 Hg hN
      go_wp2_with fail
      refine Hf.out.mono ?_
      rintro e w6 ⟨rfl, T6, F6, hT6, A6⟩
      have D6 := hid (D5.out.right F6 hT6 A6)
      rw [HN.out]
      clear F6 hT6 A6 Hf
      go_wp2_with fail
      go_roundw
      case rel => exact ⟨i + 1, S5, T6, _, by go_num, by omega, D6, hid (by have := hlen.out; rw [rkGrow_len, HN.out]; omega)⟩
      case measure => simp [intOf]; omega
    · have em : (kd : Int) % 6 = 1 := by omega
      clear hm
      go_upto_region 16 with fail
      clear c1 c2 em
      have Hb := hid (Bump_any D4.out.R vv)
      go_wp2_with fail
      refine Hb.out.mono ?_
      rintro e w5 ⟨rfl, S5, R5, hS5, A5⟩
      have D5 := D4.out.left R5 hS5 A5
      have bx5 := (A5.block wr.heap.size (lt_of_block bx.out) (fun h => by have := hx9.out _ (.inl h); omega)).trans bx.out
      clear z0 z1
      obtain ⟨z0, z1⟩ := box_cells bx5
      have Hf := hid (fBump_any D5.F D4.out.R.num vv)
      have D5 := hid D5
      clear R5 hS5 A5 Hb bx5
      go_wp2_with fail
      refine Hf.out.mono ?_
      rintro e w6 ⟨rfl, F6, A6⟩
      have D6 := hid (D5.out.right F6 (fun k hk => .inl hk) A6)
      clear F6 A6 Hf
      go_wp2_with fail
      go_roundw
      case rel => exact ⟨i + 1, S5, T, _, by go_num, by omega, D6, hid (by have := hlen.out; rw [rkBump_len]; omega)⟩
      case measure => simp [intOf]; omega
    · have em : (kd : Int) % 6 = 2 := by omega
      clear hm
      go_upto_region 19 with fail
      clear c1 c2 em
      have Hb := hid (Decay_any D4.out.R)
      go_wp2_with fail
      refine Hb.out.mono ?_
      rintro e w5 ⟨rfl, S5, R5, hS5, A5⟩
      have D5 := D4.out.left R5 hS5 A5
      have bx5 := (A5.block wr.heap.size (lt_of_block bx.out) (fun h => by have := hx9.out _ (.inl h); omega)).trans bx.out
      clear z0 z1
      obtain ⟨z0, z1⟩ := box_cells bx5
      have Hf := hid (fDecay_any D5.F D4.out.R.num)
      have D5 := hid D5
      clear R5 hS5 A5 Hb bx5
      go_wp2_with fail
      refine Hf.out.mono ?_
      rintro e w6 ⟨rfl, F6, A6⟩
      have D6 := hid (D5.out.right F6 (fun k hk => .inl hk) A6)
      clear F6 A6 Hf
      go_wp2_with fail
      go_roundw
      case rel => exact ⟨i + 1, S5, T, _, by go_num, by omega, D6, hid (by have := hlen.out; show rk.ws.length ≤ _; omega)⟩
      case measure => simp [intOf]; omega
    · have em : (kd : Int) % 6 = 3 := by omega
      clear hm
      go_upto_region 22 with fail
      clear c1 c2 em
      have Hb := hid (Put_any D4.out.R vv)
      go_wp2_with fail
      refine Hb.out.mono ?_
      rintro e w5 ⟨rfl, S5, R5, hS5, A5⟩
      have D5 := D4.out.left R5 hS5 A5
      have bx5 := (A5.block wr.heap.size (lt_of_block bx.out) (fun h => by have := hx9.out _ (.inl h); omega)).trans bx.out
      clear z0 z1
      obtain ⟨z0, z1⟩ := box_cells bx5
      have Hf := hid (fPut_any D5.F D4.out.R.num vv)
      have D5 := hid D5
      clear R5 hS5 A5 Hb bx5
      go_wp2_with fail
      refine Hf.out.mono ?_
      rintro e w6 ⟨rfl, F6, A6⟩
      have D6 := hid (D5.out.right F6 (fun k hk => .inl hk) A6)
      clear F6 A6 Hf
      go_wp2_with fail
      go_roundw
      case rel => exact ⟨i + 1, S5, T, _, by go_num, by omega, D6, hid (by have := hlen.out; rw [rkPut_len]; omega)⟩
      case measure => simp [intOf]; omega
    · have em : (kd : Int) % 6 = 4 := by omega
      clear hm
      go_upto_region 25 with fail
      clear c1 c2 em
      have Hp := hid (Pop_any D4.out.R)
      clear z0 z1
      go_wp2_with fail
      refine Hp.out.mono ?_
      rintro e w5 (⟨rfl, rfl, hno⟩ | ⟨v, rfl, hnx, R5, A5⟩)
      · have Hf := hid (fPop_any D4.out.F D4.out.R.num)
        have hno := hid hno
        clear Hp
        go_wp2_with fail
        refine Hf.out.mono ?_
        rintro e w6 (⟨rfl, F6, A6, -⟩ | ⟨u, rfl, hnu, F6, A6⟩)
        · have D6 := hid (D4.out.right F6 (fun k hk => .inl hk) A6)
          clear F6 A6 Hf
          go_wp2_with fail
          go_roundw
          case rel => exact ⟨i + 1, S, T, rk, by go_num, by omega, D6, hid (by have := hlen.out; omega)⟩
          case measure => simp [intOf]; omega
        · have := hno.out u hnu.pos hnu.le
          rw [hnu.waits] at this; cases this
      · have D5 := D4.out.left R5 (fun k hk => .inl hk) A5
        have Hf := hid (fPop_any D5.F D4.out.R.num)
        have D5 := hid D5; have hnx := hid hnx
        have hv9 : v ≤ 1000000 := by have := hnx.out.le; have := hlen.out; omega
        have hv1 : 1 ≤ v := hnx.out.pos
        clear R5 A5 Hp
        go_wp2_with fail
        refine Hf.out.mono ?_
        rintro e w6 (⟨rfl, F6, A6, hno⟩ | ⟨u, rfl, hnu, F6, A6⟩)
        · have := hno v hnx.out.pos hnx.out.le
          rw [hnx.out.waits] at this; cases this
        · obtain rfl := hnu.unique hnx.out
          have D6 := hid (D5.out.right F6 (fun k hk => .inl hk) A6)
          clear F6 A6 Hf hnu
          go_wp2_with fail
          go_roundw
          case rel => exact ⟨i + 1, S, T, _, by go_num, by omega, D6, hid (by have := hlen.out; show rk.ws.length ≤ _; omega)⟩
          case measure => simp [intOf]; omega
    · have em : (kd : Int) % 6 = 5 := by omega
      clear hm
      go_upto_region 10 with fail
      clear c1 c2 em
      have hq : ∀ m, Below (wr.alloc (.cells #[.int .u8 (kd : Nat), .int .i64 vv] 29)).heap.size (wr.alloc (.cells #[.int .u8 (kd : Nat), .int .i64 vv] 29)) ((wr.alloc (.cells #[.int .u8 (kd : Nat), .int .i64 vv] 29)).drewN m) := fun m => below_drewN (Below.refl _ _) m
      have T1 := hid (fun m => (Weight_any (D4.out.R.below (hq m)) vv).mono (R' := fun e w' => e = .returned (.int .u64 (rkWeight rk vv : Nat)) ∧ w' = (wr.alloc (.cells #[.int .u8 (kd : Nat), .int .i64 vv] 29)).drewN m) fun e w' h => ⟨h.1, h.2.symm⟩)
      have T2 := hid (fun m => (fWeight_any (D4.out.F.below (hq m)) D4.out.R.num vv).mono (R' := fun e w' => e = .returned (.int .u64 (rkWeight rk vv : Nat)) ∧ w' = (wr.alloc (.cells #[.int .u8 (kd : Nat), .int .i64 vv] 29)).drewN m) fun e w' h => ⟨h.1, h.2.symm⟩)
      clear hq
      generalize rkWeight rk vv = x at *
      go_quiet ((first | (go_at_call 21; exact Calls.quiet_of_same (T1.out _)) | (go_at_call 22; exact Calls.quiet_of_same (T2.out _))))
      have D6 := hid (D4.out.below (below_drewN (Below.refl _ _) nq))
      clear T1 T2 z0 z1
      go_wp2_with fail
      go_roundw
      case rel => exact ⟨i + 1, S, T, rk, by go_num, by omega, D6, hid (by have := hlen.out; omega)⟩
      case measure => simp [intOf]; omega
end Go.Proofs.Ytmimmckhnomcdaa
/- Rows of acts, and of bytes, that come in as data. -/
namespace Go.Proofs.Ytmimmckhnomcdaa
open Go.ChangeShapes Go.WideShapes Go.ChangeAt Go.RowKit Big

theorem laidOutX : laidOutB Try.prog = true := by kernel_rfl
theorem fieldsAct : ∃ f0 f1 : Field, Try.prog.underlying 29 = some (.struct #[f0, f1]) ∧ f0.type = 5 ∧ f1.type = 3 ∧ f0.offset = 0 ∧ f1.offset = 1 := ⟨_, _, Try.underlying29, rfl, rfl, rfl, rfl⟩
theorem cellsAct : Try.prog.cellsOf 29 = 2 := by kernel_rfl
theorem cellsU8 : Try.prog.cellsOf 5 = 1 := by kernel_rfl
theorem cellsI : Try.prog.cellsOf 3 = 1 := by kernel_rfl
theorem wf_u8 {a : Int} (h : (Lit.int .u8 a).wf = true) : ∃ n : Nat, a = (n : Nat) ∧ n < 256 := by
  have h' : (decide (IntKind.u8.min ≤ a) && decide (a ≤ IntKind.u8.max)) = true := h
  have e1 : IntKind.u8.min = 0 := by decide
  have e2 : IntKind.u8.max = 255 := by decide
  rw [e1, e2] at h'
  simp at h'
  exact ⟨a.toNat, by omega, by omega⟩
def dataOf {H : Type} : DataW H → List (DataW H)
  | .slice e _ => e
  | _ => []
section
variable {H : Type} {enc : TypeId × Value → H} {w : World} {base : Nat} {spare : Nat → Bool} {held : Bool}
theorem spotless {b off : Nat} {sp : Option _} {v : Value} (h : w.cell? ((⟨b, off, sp⟩ : Addr)) = some v) : sp = none := by
  cases sp with
  | none => rfl
  | some x =>
    exfalso
    revert h
    unfold World.cell?
    split <;> simp
theorem cells_each {a : Addr} {n : Nat} {cs : List Value} (h : w.cells? base a n = some cs) : cs.length = n ∧ ∀ j u, cs[j]? = some u → w.cell? (a.add j) = some u := by
  unfold World.cells? at h
  split at h
  · have hl := mapM_some_length h
    simp at hl
    refine ⟨hl, fun j u hj => ?_⟩
    have hjl : j < n := by
      have := (List.getElem?_eq_some_iff.1 hj).1
      omega
    have := mapM_some_get h j j (by simp [hjl])
    rw [this, hj]
  · cases h
/-- a row of structs that comes in -/
theorem open_rows {α : Type} {t e : TypeId} (size : Nat) (ht : Try.prog.underlying t = some (.slice e)) (hsz : Try.prog.cellsOf e = size) (hpos : 0 < size) {Q : List Value → α → DataW H → Prop}
    (each : ∀ m cs y, DataW.trod enc Try.prog w base spare held m e cs = some y → ∃ x : α, Q cs x y.1) {fuel : Nat} {cs : List Value} {y : DataW H × List MemPlace} (h : DataW.trod enc Try.prog w base spare held fuel t cs = some y) :
    ∃ (p : Option Addr) (cap : Nat) (l : List α), cs = [.slice p l.length cap] ∧ l.length ≤ cap ∧ cap ≤ maxLen ∧ (p = none → cap = 0) ∧
      (0 < l.length → ∃ b off, p = some ⟨b, off, none⟩ ∧ b < w.heap.size ∧ ∀ i (h : i < l.length), ∃ c d, c.length = size ∧ (∀ j u, c[j]? = some u → w.cell? ⟨b, off + i * size + j, none⟩ = some u) ∧ Q c l[i] d ∧ d ∈ dataOf y.1) := by
  rcases DataW.trod_slice ht h with ⟨rfl, -⟩ | ⟨a, len, cap, elems, rest, m, rfl, rfl, rfl, hb, hl, hm, hel, hget, -, -⟩
  · exact ⟨none, 0, [], rfl, by simp, by simp [maxLen], fun _ => rfl, fun h => absurd h (by simp)⟩
  · rw [hsz] at hget
    have hone : ∀ i : Fin len, ∃ x : α, ∃ c d, c.length = size ∧ (∀ j u, c[j]? = some u → w.cell? ((a.add (i.1 * size)).add j) = some u) ∧ Q c x d ∧ d ∈ elems.map (·.1) := fun i => by
      have hg := hget i.1 i.2
      have hil : i.1 < elems.length := by omega
      rw [List.getElem?_eq_getElem hil] at hg
      obtain ⟨ci, h1, h2⟩ := Option.bind_eq_some_iff.1 hg
      obtain ⟨x, hx⟩ := each m ci _ h2
      obtain ⟨k1, k2⟩ := cells_each h1
      exact ⟨x, ci, _, k1, k2, hx, List.mem_map.2 ⟨_, List.getElem_mem hil, rfl⟩⟩
    obtain ⟨f, hf⟩ := Classical.axiomOfChoice hone
    have hll : (List.ofFn f).length = len := by simp
    refine ⟨some a, cap, List.ofFn f, by rw [hll], by rw [hll]; exact hl, hm, fun e => by (cases e), fun h0 => ?_⟩
    rw [hll] at h0
    obtain ⟨b, off, sp⟩ := a
    have hsp : sp = none := by
      obtain ⟨c, d, k1, k2, -⟩ := hf ⟨0, h0⟩
      have := k2 0 (c[0]'(by omega)) (by simp)
      simp only [Nat.zero_mul, Addr.add] at this
      exact spotless this
    subst hsp
    have hbl : b < w.heap.size := by
      obtain ⟨c, d, k1, k2, -⟩ := hf ⟨0, h0⟩
      have := k2 0 (c[0]'(by omega)) (by simp)
      exact World.block_lt_of_cell? w _ (by simpa only [add_plain] using this)
    refine ⟨b, off, rfl, hbl, fun i hi => ?_⟩
    rw [hll] at hi
    obtain ⟨c, d, k1, k2, k3, k4⟩ := hf ⟨i, hi⟩
    exact ⟨c, d, k1, fun j u hj => by have := k2 j u hj; simpa only [add_plain] using this, by rw [List.getElem_ofFn]; exact k3, k4⟩
theorem open_act {fuel : Nat} {cs : List Value} {y : DataW H × List MemPlace} (h : DataW.trod enc Try.prog w base spare held fuel 29 cs = some y) :
    ∃ x : Nat × Int, cs = [.int .u8 (x.1 : Nat), .int .i64 x.2] ∧ x.1 < 256 := by
  obtain ⟨f0, f1, hs, e0, e1, o0, o1⟩ := fieldsAct
  obtain ⟨xs, n, rfl, rfl, hl, hlen, hf⟩ := DataW.trod_struct hs h
  rw [cellsAct] at hl
  match cs, hl, xs, hlen with
  | [c0, c1], _, [y0, y1], _ =>
    have h0 := hf 0 f0 rfl
    have h1 := hf 1 f1 rfl
    rw [e0, o0, cellsU8] at h0
    rw [e1, o1, cellsI] at h1
    obtain ⟨a, g0, -, ga⟩ := DataW.trod_int Try.underlying5 (show DataW.trod enc Try.prog w base spare held n 5 [c0] = some y0 from h0)
    obtain ⟨b, g1, -⟩ := DataW.trod_int Try.underlying3 (show DataW.trod enc Try.prog w base spare held n 3 [c1] = some y1 from h1)
    injection g0 with g0 _; injection g1 with g1 _
    subst g0 g1
    obtain ⟨k, rfl, hk⟩ := wf_u8 ga
    exact ⟨(k, b), rfl, hk⟩
theorem open_acts {r : Reach} {b0 : Nat} {v : Value} {d : DataW H} {p : List MemPlace} (hv : Value.okWide Try.prog w r b0 22 v) (h : DataW.Trod enc Try.prog w base spare held 22 v d p) : ∃ l, AcIn w v l := by
  obtain ⟨a, len, cap, rfl⟩ := okWide_slice Try.underlying22 hv
  obtain ⟨fuel, hf⟩ := h
  obtain ⟨q, c, l, hcs, h1, h2, h3, h4⟩ := open_rows (α := Nat × Int) (Q := fun cs x _ => cs = [.int .u8 (x.1 : Nat), .int .i64 x.2] ∧ x.1 < 256) 2 Try.underlying22 cellsAct (by decide) (fun m cs y hy => open_act hy) hf
  have hv' : Value.slice a len cap = .slice q l.length c := by simpa [Value.cells] using hcs
  rw [hv']
  refine ⟨l, fun x hx => ?_, q, c, rfl, h1, h2, fun h0 => ?_⟩
  · obtain ⟨i, hi, rfl⟩ := List.mem_iff_getElem.1 hx
    obtain ⟨b, off, -, -, hc⟩ := h4 (by omega)
    obtain ⟨cc, dd, -, -, ⟨-, hk⟩, -⟩ := hc i hi
    exact hk
  · obtain ⟨b, off, e, hb, hc⟩ := h4 h0
    refine ⟨b, off, e, hb, fun i hi => ?_⟩
    obtain ⟨cc, dd, -, k, ⟨rfl, -⟩, -⟩ := hc i hi
    exact ⟨by simpa using k 0 _ rfl, k 1 _ rfl⟩
theorem open_bytes {r : Reach} {b0 : Nat} {v : Value} {d : DataW H} {p : List MemPlace} (hv : Value.okWide Try.prog w r b0 37 v) (h : DataW.Trod enc Try.prog w base spare held 37 v d p) : ∃ l, At w .u8 v l ∧ ∀ x ∈ l, x < 256 := by
  obtain ⟨a, len, cap, rfl⟩ := okWide_slice Try.underlying37 hv
  obtain ⟨fuel, hf⟩ := h
  obtain ⟨q, c, l, hcs, h1, h2, h3, h4⟩ := open_rows (α := Nat) (Q := fun cs x _ => cs = [.int .u8 (x : Nat)] ∧ x < 256) 1 Try.underlying37 cellsU8 (by decide) (fun m cs y hy => by
    obtain ⟨n, g, -, gn⟩ := DataW.trod_int Try.underlying5 hy
    obtain ⟨k, rfl, hk⟩ := wf_u8 gn
    exact ⟨k, g, hk⟩) hf
  have hv' : Value.slice a len cap = .slice q l.length c := by simpa [Value.cells] using hcs
  rw [hv']
  refine ⟨l, ⟨q, c, rfl, h1, h2, h3, fun h0 => ?_⟩, fun x hx => ?_⟩
  · obtain ⟨b, off, e, hb, hc⟩ := h4 h0
    refine ⟨b, off, e, hb, fun i hi => ?_⟩
    obtain ⟨cc, dd, -, k, ⟨rfl, -⟩, -⟩ := hc i hi
    simpa using k 0 _ rfl
  · obtain ⟨i, hi, rfl⟩ := List.mem_iff_getElem.1 hx
    obtain ⟨b, off, -, -, hc⟩ := h4 (by omega)
    obtain ⟨cc, dd, -, -, ⟨-, hk⟩, -⟩ := hc i hi
    exact hk
end
end Go.Proofs.Ytmimmckhnomcdaa
/- elenchuslaw12.RankGreat. -/
namespace Go.Proofs.Ytmimmckhnomcdaa
open Go.RowKit Big

structure GreatInv (rk : Rk) (k0 m : Nat) : Prop where
  len : rk.ws.length = 10
  wt : rk.wt = List.replicate 10 true
  oth : ∀ i, i ≠ k0 → at0 rk.ws i = 0
  zero : m = 0 → at0 rk.ws k0 = 0
  pos : 0 < m → 0 < at0 rk.ws k0
theorem GreatInv.start (k0 : Nat) : GreatInv (rkNew 10) k0 0 := by
  have h : ∀ i, at0 (rkNew 10).ws i = 0 := fun i => by
    show at0 (List.replicate 10 0) i = 0
    unfold at0
    simp only [List.getD_eq_getElem?_getD, List.getElem?_replicate]
    split <;> rfl
  exact ⟨rfl, rfl, fun i _ => h i, fun _ => h k0, fun h => absurd h (Nat.lt_irrefl 0)⟩
theorem GreatInv.step {rk : Rk} {k0 m : Nat} (h : GreatInv rk k0 m) (hk : k0 < 10) : GreatInv (bumpAt (rkDecay rk) k0) k0 (m + 1) := by
  have hs : 1 ≤ (rkDecay rk).st := by unfold rkDecay; dsimp only; omega
  have hl : k0 < (rkDecay rk).ws.length := by show k0 < rk.ws.length; rw [h.len]; exact hk
  have ha : ∀ i, at0 (addAt (rkDecay rk) k0).ws i = if i = k0 then at0 rk.ws k0 + (rkDecay rk).st else at0 rk.ws i := fun i => by
    show at0 ((rkDecay rk).ws.set k0 _) i = _
    rw [at0_set _ _ _ _ hl]; rfl
  unfold bumpAt
  split
  · next hh =>
    refine ⟨by simp [light, addAt, rkDecay, h.len], h.wt, fun i hi => ?_, fun h => by omega, fun _ => ?_⟩
    · show at0 ((addAt (rkDecay rk) k0).ws.map (· / 1073741824)) i = 0
      rw [at0_map_div, ha, if_neg hi, h.oth i hi]
    · show 0 < at0 ((addAt (rkDecay rk) k0).ws.map (· / 1073741824)) k0
      rw [at0_map_div, ha, if_pos rfl]
      have : 1152921504606846976 ≤ at0 rk.ws k0 + (rkDecay rk).st := hh
      omega
  · refine ⟨by simp [addAt, rkDecay, h.len], h.wt, fun i hi => ?_, fun h => by omega, fun _ => ?_⟩
    · rw [ha, if_neg hi, h.oth i hi]
    · rw [ha, if_pos rfl]; omega
theorem wt0_rep {k n : Nat} (h : k < n) : wt0 (List.replicate n true) k = true := by
  unfold wt0
  simp [List.getD_eq_getElem?_getD, List.getElem?_replicate, h]
theorem GreatInv.next {rk : Rk} {k0 m : Nat} (h : GreatInv rk k0 m) (hk : k0 < 10) : Next rk (if m = 0 then 1 else k0 + 1) := by
  by_cases hm : m = 0
  · rw [if_pos hm]
    have hz := h.zero hm
    refine ⟨by omega, by rw [h.len]; omega, by rw [h.wt]; exact wt0_rep (by omega), fun u h1 h2 h3 => ?_⟩
    have e : ∀ i, at0 rk.ws i = 0 := fun i => by
      by_cases hi : i = k0
      · rw [hi]; exact hz
      · exact h.oth i hi
    unfold rkLt
    rw [e, e]
    omega
  · rw [if_neg hm]
    have hp := h.pos (by omega)
    refine ⟨by omega, by rw [h.len]; omega, by rw [h.wt]; exact wt0_rep (by omega), fun u h1 h2 h3 => ?_⟩
    unfold rkLt
    rw [Nat.add_sub_cancel]
    by_cases hi : u - 1 = k0
    · rw [hi]; omega
    · rw [h.oth _ hi]; omega
theorem rkHas_at {rk : Rk} {k : Nat} (h : k < rk.ws.length) : rkHas rk ((k + 1 : Nat) : Int) = true := by
  simp only [rkHas, Bool.and_eq_true, decide_eq_true_eq]; omega
theorem rkBump_at {rk : Rk} {k : Nat} (h : k < rk.ws.length) : rkBump rk ((k + 1 : Nat) : Int) = bumpAt rk k := by
  unfold rkBump
  rw [if_pos (rkHas_at h), show (((k + 1 : Nat) : Int)).toNat - 1 = k by omega]
theorem rkPut_at {rk : Rk} {k : Nat} (h : k < rk.ws.length) : rkPut rk ((k + 1 : Nat) : Int) = putAt rk k := by
  unfold rkPut
  rw [if_pos (rkHas_at h), show (((k + 1 : Nat) : Int)).toNat - 1 = k by omega]
theorem rkWeight_at {rk : Rk} {k : Nat} (h : k < rk.ws.length) : rkWeight rk ((k + 1 : Nat) : Int) = at0 rk.ws k := by
  unfold rkWeight
  rw [if_pos (rkHas_at h), show (((k + 1 : Nat) : Int)).toNat - 1 = k by omega]
/-- a rank of the law's own, behind a call that changed it -/
theorem own_go {w w1 w2 : World} {S S2 : Nat → Prop} (hS : ∀ k, S k → w.heap.size ≤ k) (B : Below w.heap.size w w1) (h2 : ∀ k, S2 k → S k ∨ w1.heap.size ≤ k) (A : Apart S w1 w2) : (∀ k, S2 k → w.heap.size ≤ k) ∧ Below w.heap.size w w2 :=
  ⟨fun k hk => by
    rcases h2 k hk with h | h
    · exact hS k h
    · have := B.size; omega, B.trans (A.below (B := w.heap.size) B.size hS)⟩
set_option maxRecDepth 100000 in
set_option maxHeartbeats 6400000 in
theorem lawGreat_any (n v : Nat) (hn : n < 65536) (hv : v < 256) (w : World) : Calls Try.prog 6 #[.int .u16 (n : Nat), .int .u8 (v : Nat)] w (RBool true w) := by
  have H := hid (fixed_any w)
  obtain ⟨k0, hk0⟩ : ∃ k0, k0 = v % 10 := ⟨_, rfl⟩
  have hk9 : k0 < 10 := by omega
  have e0 : (1 : Int) + (v : Int) % 10 = (k0 : Int) + 1 := by omega
  have E0 := hid e0
  have Hk9 := hid hk9
  have E4 : Hid (((k0 + 1 : Nat) : Int) = (k0 : Int) + 1) := hid (by omega)
  obtain ⟨M, hM⟩ : ∃ M, M = n % 3000 := ⟨_, rfl⟩
  have hM9 : M < 3000 := by omega
  have e1 : (n : Int) % 3000 = (M : Nat) := by omega
  have E1 := hid e1
  clear hk0 e0 e1 hk9
  have HM := hid hM
  clear hM
  go_enter Try.func6, Try.ntmps6
  go_wp2_with fail
  refine H.out.mono ?_
  rintro e w1 ⟨rfl, b1⟩
  have Hn := hid (New_any 10 (by decide) w1)
  have b1 := hid b1
  go_wp2_with fail
  refine Hn.out.mono ?_
  rintro e w2 ⟨r, S, rfl, R2, hS2, B2⟩
  have hz1 := b1.out.size
  have R2 := hid R2
  have hS2' := hid (fun k hk => (by have := hS2 k hk; omega : w.heap.size ≤ k))
  have B2' := hid (bel_go B2 b1.out)
  clear Hn hS2 B2 hz1 H
  go_upto_region 5 with fail
  rw [E0.out]
  go_wp2_with fail
  rw [E1.out]
  go_loopw [18] (fun vm wr => ∃ (m : Nat) (S : Nat → Prop) (rk : Rk), vm = .int .u16 (m : Nat) ∧ m ≤ M ∧ Hid (RkAt wr S r rk) ∧ Hid (GreatInv rk k0 m) ∧ Hid (∀ k, S k → w.heap.size ≤ k) ∧ Hid (Below w.heap.size w wr)) (fun vm _ => M - (intOf vm).toNat)
  case atStart => exact ⟨0, S, rkNew 10, rfl, Nat.zero_le _, R2, hid (GreatInv.start k0), hS2', B2'⟩
  case round =>
    obtain ⟨m, S1, rk, rfl, hm, hR, hG, hS, hB⟩ := hrel
    have Hm := hid hm
    clear hm
    by_cases hmM : m < M
    · have Hd := hid (Decay_any hR.out)
      go_wp2_with fail
      refine Hd.out.mono ?_
      rintro e w3 ⟨rfl, S3, R3, hS3, A3⟩
      obtain ⟨hS3', B3⟩ := own_go hS.out hB.out hS3 A3
      have Hb := Bump_any R3 ((k0 + 1 : Nat) : Int)
      rw [rkBump_at (by show k0 < rk.ws.length; rw [hG.out.len]; exact Hk9.out)] at Hb
      rw [E4.out] at Hb
      have Hb := hid Hb; have hS3' := hid hS3'; have B3 := hid B3
      clear Hd R3 hS3 A3
      go_wp2_with fail
      refine Hb.out.mono ?_
      rintro e w4 ⟨rfl, S4, R4, hS4, A4⟩
      obtain ⟨hS4', B4⟩ := own_go hS3'.out B3.out hS4 A4
      have hG4 := hG.out.step Hk9.out
      have W4 := Weight_any R4 ((k0 + 1 : Nat) : Int)
      rw [rkWeight_at (by rw [hG4.len]; exact Hk9.out), E4.out] at W4
      have hsm := R4.num.small k0
      have hps := hG4.pos (Nat.succ_pos m)
      generalize hy : at0 (bumpAt (rkDecay rk) k0).ws k0 = y at W4 hsm hps
      have t1 : decide ((1152921504606846976 : Int) ≤ (y : Int)) = false := decide_eq_false (by omega)
      have t2 : ((y : Int) == 0) = false := by simp; omega
      have W4 := hid W4; have hS4' := hid hS4'; have B4 := hid B4; have hG4 := hid hG4; have R4 := hid R4
      clear Hb hS4 A4 hy hsm hps hS3' B3
      go_wp2_with fail
      refine W4.out.mono ?_
      rintro e w5 ⟨rfl, rfl⟩
      go_wp2_with fail
      refine W4.out.mono ?_
      rintro e w5 ⟨rfl, rfl⟩
      go_wp2_with fail
      go_roundw
      case rel => exact ⟨m + 1, S4, _, by go_num, by omega, R4, hG4, hS4', B4⟩
      case measure => simp [intOf]; omega
    · obtain rfl : m = M := by have := Hm.out; omega
      have P := hid (Pop_next hR.out (hG.out.next Hk9.out))
      have hS := hS; have hB := hB
      by_cases hm0 : m = 0
      · subst hm0
        rw [if_pos rfl] at P
        have P : Hid (Calls Try.prog 19 #[.pointer (some ⟨r, 0, none⟩)] wr fun e w' => e = .returned (.tuple #[.int .i64 1, .bool true]) ∧ Apart S1 wr w') := hid (P.out.mono fun e w' ⟨h1, _, h3⟩ => ⟨h1, h3⟩)
        have t3 : (((n : Int) % 3000) == 0) = true := by have := HM.out; simp; omega
        clear hM9 hmM
        by_cases hk00 : k0 = 0
        · subst hk00
          go_wp2_with fail
          refine P.out.mono ?_
          rintro e w3 ⟨rfl, A3⟩
          have B3 := hid (hB.out.trans (A3.below (B := w.heap.size) hB.out.size hS.out))
          clear A3 P t3
          go_wp2_with fail
          go_ret
          exact ⟨rfl, B3.out⟩
        · have t0 : ((1 : Int) == (k0 : Int) + 1) = false := by simp; omega
          clear hk00
          go_wp2_with fail
          refine P.out.mono ?_
          rintro e w3 ⟨rfl, A3⟩
          have B3 := hid (hB.out.trans (A3.below (B := w.heap.size) hB.out.size hS.out))
          clear A3 P
          go_wp2_with fail
          go_ret
          exact ⟨rfl, B3.out⟩
      · rw [if_neg hm0] at P
        go_wp2_with fail
        refine P.out.mono ?_
        rintro e w3 ⟨rfl, R3, A3⟩
        have B3 := hid (hB.out.trans (A3.below (B := w.heap.size) hB.out.size hS.out))
        clear R3 A3 P
        go_wp2_with fail
        go_ret
        exact ⟨rfl, B3.out⟩
end Go.Proofs.Ytmimmckhnomcdaa
/- elenchuslaw12.RankFalls. -/
namespace Go.Proofs.Ytmimmckhnomcdaa
open Go.RowKit Big

def trues : List Bool → Nat
  | [] => 0
  | b :: l => (if b then 1 else 0) + trues l
theorem trues_le : ∀ l : List Bool, trues l ≤ l.length
  | [] => Nat.le_refl _
  | b :: l => by have := trues_le l; unfold trues; simp; split <;> omega
theorem trues_set : ∀ (l : List Bool) (i : Nat), wt0 l i = true → trues (l.set i false) + 1 = trues l
  | [], i, h => by simp [wt0] at h
  | b :: l, 0, h => by
    have hb : b = true := h
    subst hb
    simp [trues]; omega
  | b :: l, i + 1, h => by
    have := trues_set l i (by simpa [wt0] using h)
    simp only [List.set_cons_succ, trues]
    omega
theorem trues_pos : ∀ (l : List Bool), (∀ i, i < l.length → wt0 l i = false) → trues l = 0
  | [], _ => rfl
  | b :: l, h => by
    have h0 : b = false := h 0 (by simp)
    subst h0
    have := trues_pos l (fun i hi => h (i + 1) (by simpa using hi))
    simp [trues, this]
theorem trues_some : ∀ (l : List Bool), 0 < trues l → ∃ i, i < l.length ∧ wt0 l i = true
  | [], h => by simp [trues] at h
  | true :: l, _ => ⟨0, by simp, rfl⟩
  | false :: l, h => by
    obtain ⟨i, h1, h2⟩ := trues_some l (by simpa [trues] using h)
    exact ⟨i + 1, by simpa using h1, by simpa [wt0] using h2⟩
/-- who was popped last comes ahead of all that wait still -/
def Fall (rk : Rk) (last : Nat) : Prop := last = 0 ∨ (1 ≤ last ∧ last ≤ rk.ws.length ∧ ∀ u, 1 ≤ u → u ≤ rk.ws.length → wt0 rk.wt (u - 1) = true → rkLt rk.ws last u)
theorem Fall.next {rk : Rk} {v : Nat} (h : Next rk v) (hl : rk.wt.length = rk.ws.length) : Fall (popAt rk (v - 1)) v := by
  refine .inr ⟨h.pos, h.le, fun u h1 h2 h3 => ?_⟩
  have h2' : u ≤ rk.ws.length := h2
  have h3' : wt0 (rk.wt.set (v - 1) false) (u - 1) = true := h3
  have := h.pos; have := h.le
  rw [wt0_set _ _ _ _ (by omega)] at h3'
  by_cases e : u - 1 = v - 1
  · rw [if_pos e] at h3'; cases h3'
  · rw [if_neg e] at h3'
    rcases rkLt_total rk.ws (show v ≠ u by omega) with h4 | h4
    · exact h4
    · exact absurd h4 (h.least u h1 h2' h3')
theorem rkDecay_len (rk : Rk) : (rkDecay rk).ws.length = rk.ws.length := rfl
variable {w0 w w1 : World} {r : Nat} {rk rk' : Rk} {S S' : Nat → Prop}
/-- a rank of the law's own -/
structure Mine (w0 w : World) (r : Nat) (rk : Rk) (S : Nat → Prop) : Prop where
  R : RkAt w S r rk
  hS : ∀ k, S k → w0.heap.size ≤ k
  B : Below w0.heap.size w0 w
theorem Mine.below (h : Mine w0 w r rk S) (b : Below w.heap.size w w1) : Mine w0 w1 r rk S := ⟨h.R.below b, h.hS, h.B.trans (b.mono h.B.size)⟩
theorem Mine.go (h : Mine w0 w r rk S) (R : RkAt w1 S' r rk') (hS : ∀ k, S' k → S k ∨ w.heap.size ≤ k) (A : Apart S w w1) : Mine w0 w1 r rk' S' := by
  obtain ⟨h1, h2⟩ := own_go h.hS h.B hS A
  exact ⟨R, h1, h2⟩
set_option maxRecDepth 100000 in
set_option maxHeartbeats 12800000 in
theorem lawFalls_any (n : Int) (vl : Value) (l : List (Nat × Int)) (w : World) (hl : AcIn w vl l) : Calls Try.prog 4 #[.int .i64 n, vl] w (RBool true w) := by
  have H := hid (fixed_any w)
  obtain ⟨pl, cl, rfl, hl1, hl2, -⟩ := hl.at_
  have Hl := hid hl
  obtain ⟨L, hL⟩ : ∃ L, L = l.length := ⟨_, rfl⟩
  rw [← hL] at Hl hl1 ⊢
  have HL := hid hL
  clear hl hL
  by_cases hn : n ≤ 200
  case neg =>
    have t1 : (200 : Int) < n := by omega
    clear hn
    go_enter Try.func4, Try.ntmps4
    go_wp2_with fail
    refine H.out.mono ?_
    rintro e w1 ⟨rfl, b1⟩
    have b1 := hid b1
    go_wp2_with fail
    go_ret
    exact ⟨rfl, b1.out⟩
  case pos =>
  have t1 : decide ((200 : Int) < n) = false := decide_eq_false (by omega)
  by_cases hL4 : L ≤ 400
  case neg =>
    have t2 : decide ((400 : Int) < (L : Nat)) = true := decide_eq_true (by omega)
    have t3 : decide (400 < L) = true := decide_eq_true (by omega)
    clear hn
    go_enter Try.func4, Try.ntmps4
    go_wp2_with fail
    refine H.out.mono ?_
    rintro e w1 ⟨rfl, b1⟩
    have b1 := hid b1
    go_wp2_with fail
    go_ret
    exact ⟨rfl, b1.out⟩
  case pos =>
  have t2 : decide ((400 : Int) < (L : Nat)) = false := decide_eq_false (by omega)
  have t3 : decide (400 < L) = false := decide_eq_false (by omega)
  have hn' := hid hn
  clear hn
  go_enter Try.func4, Try.ntmps4
  go_wp2_with fail
  refine H.out.mono ?_
  rintro e w1 ⟨rfl, b1⟩
  have Hn := hid (New_any n (by have := hn'.out; omega) w1)
  have b1 := hid b1
  go_wp2_with fail
  refine Hn.out.mono ?_
  rintro e w2 ⟨r, S, rfl, R2, hS2, B2⟩
  have hz1 := b1.out.size
  have D2 := hid (show Mine w w2 r (rkNew n.toNat) S from ⟨R2, fun k hk => by have := hS2 k hk; omega, bel_go B2 b1.out⟩)
  clear R2 hS2 B2 Hn b1 hz1 H t1 t2 t3
  go_wp2_with fail
  go_loopw [24] (fun vi wr => ∃ (i : Nat) (S : Nat → Prop) (rk : Rk), vi = .int .i64 (i : Nat) ∧ i ≤ L ∧ Hid (Mine w wr r rk S) ∧ Hid (rk.ws.length ≤ 200 + i)) (fun vi _ => L - (intOf vi).toNat)
  case atStart => exact ⟨0, S, _, rfl, Nat.zero_le _, D2, hid (by have := hn'.out; simp [rkNew]; omega)⟩
  case round =>
    obtain ⟨i, S, rk, rfl, hi, hD, hlen⟩ := hrel
    by_cases hiL : i < L
    case neg =>
      have hlen6 : Hid (rk.ws.length ≤ 600) := hid (by have := hlen.out; omega)
      have hc0 : Hid (trues rk.wt + 0 ≤ 600) := hid (by have h1 := trues_le rk.wt; have h2 := hD.out.R.num.len; have := hlen6.out; omega)
      clear hlen
      go_wp2_with fail
      go_loopw [56, 8] (fun vc vlast wr => ∃ (c last : Nat) (rk : Rk), vc = .int .i64 (c : Nat) ∧ vlast = .int .i64 (last : Nat) ∧ c ≤ 600 ∧ Hid (Mine w wr r rk S) ∧ Hid (rk.ws.length ≤ 600) ∧ Hid (trues rk.wt + c ≤ 600) ∧ Hid (Fall rk last)) (fun vc _ _ => 1000 - (intOf vc).toNat)
      case atStart => exact ⟨0, 0, rk, rfl, rfl, by omega, hD, hlen6, hc0, hid (.inl rfl)⟩
      case round =>
        obtain ⟨c, last, rk2, rfl, rfl, hc6, hD, hlen, hcn, hF⟩ := hrel
        have hcl : (c : Int) < 1000 := by omega
        go_wp2_with fail
        refine (Pop_any hD.out.R).mono ?_
        rintro e w5 (⟨rfl, rfl, -⟩ | ⟨v, rfl, hnx, R5, A5⟩)
        · have hB := hid hD.out.B
          go_wp2_with fail
          go_ret
          exact ⟨rfl, hB.out⟩
        · have D5 := hid (hD.out.go R5 (fun k hk => .inl hk) A5)
          have hnl := hD.out.R.num.len
          have hlv : v ≤ rk2.ws.length := hnx.le
          have hv1 : 1 ≤ v := hnx.pos
          have hv9 : v ≤ 600 := by have := hlen.out; omega
          have hF5 := hid (Fall.next hnx hnl)
          have hc5 : Hid (trues (popAt rk2 (v - 1)).wt + (c + 1) ≤ 600) := hid (by have h1 := trues_set rk2.wt (v - 1) hnx.waits; have := hcn.out; show trues (rk2.wt.set (v - 1) false) + (c + 1) ≤ 600; omega)
          have hl5 : Hid ((popAt rk2 (v - 1)).ws.length ≤ 600) := hlen
          have hc59 : c + 1 ≤ 600 := by have := hc5.out; omega
          have tv : decide ((v : Int) < 1) = false := decide_eq_false (by omega)
          rcases hF.out with rfl | ⟨hl1, hl2, hlt⟩
          · clear hnx R5 A5
            go_wp2_with fail
            go_roundw
            case rel => exact ⟨c + 1, v, _, by go_num, rfl, by omega, D5, hl5, hc5, hF5⟩
            case measure => simp [intOf]; omega
          · have hlv := hlt v hv1 hnx.le hnx.waits
            have tl : decide ((0 : Int) < (last : Nat)) = true := decide_eq_true (by omega)
            have tl2 : decide (0 < last) = true := decide_eq_true (by omega)
            have hW1 := Weight_any R5 ((last - 1 + 1 : Nat) : Int)
            rw [rkWeight_at (by show last - 1 < rk2.ws.length; omega), show last - 1 + 1 = last by omega] at hW1
            have hW2 := Weight_any R5 ((v - 1 + 1 : Nat) : Int)
            rw [rkWeight_at (by show v - 1 < rk2.ws.length; omega), show v - 1 + 1 = v by omega] at hW2
            change rkLt rk2.ws last v at hlv
            unfold rkLt at hlv
            change Calls _ _ _ _ (RSame1 (.int .u64 (at0 rk2.ws (last - 1) : Nat)) _) at hW1
            change Calls _ _ _ _ (RSame1 (.int .u64 (at0 rk2.ws (v - 1) : Nat)) _) at hW2
            generalize at0 rk2.ws (last - 1) = xl at *
            generalize at0 rk2.ws (v - 1) = xv at *
            have hW1 := hid hW1; have hW2 := hid hW2
            have ta : decide ((xl : Int) < (xv : Nat)) = false := decide_eq_false (by omega)
            have ta2 : decide (xl < xv) = false := decide_eq_false (by omega)
            by_cases he : xl = xv
            · have tb : ((xl : Int) == (xv : Nat)) = true := by simp; omega
              have tc : decide ((v : Int) ≤ (last : Nat)) = false := decide_eq_false (by omega)
              have tc2 : decide (v ≤ last) = false := decide_eq_false (by omega)
              clear hnx R5 A5 hlt hlv he hl2
              go_wp2_with fail
              refine hW1.out.mono ?_
              rintro e w6 ⟨rfl, rfl⟩
              go_wp2_with fail
              refine hW2.out.mono ?_
              rintro e w6 ⟨rfl, rfl⟩
              go_wp2_with fail
              refine hW1.out.mono ?_
              rintro e w6 ⟨rfl, rfl⟩
              go_wp2_with fail
              refine hW2.out.mono ?_
              rintro e w6 ⟨rfl, rfl⟩
              go_wp2_with fail
              go_roundw
              case rel => exact ⟨c + 1, v, _, by go_num, rfl, by omega, D5, hl5, hc5, hF5⟩
              case measure => simp [intOf]; omega
            · have tb : ((xl : Int) == (xv : Nat)) = false := by simp; omega
              clear hnx R5 A5 hlt hlv he hl2
              go_wp2_with fail
              refine hW1.out.mono ?_
              rintro e w6 ⟨rfl, rfl⟩
              go_wp2_with fail
              refine hW2.out.mono ?_
              rintro e w6 ⟨rfl, rfl⟩
              go_wp2_with fail
              refine hW1.out.mono ?_
              rintro e w6 ⟨rfl, rfl⟩
              go_wp2_with fail
              refine hW2.out.mono ?_
              rintro e w6 ⟨rfl, rfl⟩
              go_wp2_with fail
              go_roundw
              case rel => exact ⟨c + 1, v, _, by go_num, rfl, by omega, D5, hl5, hc5, hF5⟩
              case measure => simp [intOf]; omega
    case pos =>
    obtain ⟨pp, cc, e0, -, -, hat⟩ := Hl.out.at_
    injection e0 with e1 e2 e3
    have hil : i < l.length := by rw [← HL.out]; exact hiL
    obtain ⟨b, off, rfl, hbb, hc⟩ := hat (by omega)
    subst e1
    clear e2 e3 hat
    obtain ⟨hc1, hc2⟩ := hc i hil
    have hkd : (l[i]'hil).1 < 256 := Hl.out.small _ (List.getElem_mem _)
    have c1 := (hD.out.B.cell (p := ⟨b, off + i * 2, none⟩) hbb).trans hc1
    have c2 := (hD.out.B.cell (p := ⟨b, off + i * 2 + 1, none⟩) hbb).trans hc2
    obtain ⟨kd, hk⟩ : ∃ kd, kd = (l[i]'hil).1 := ⟨_, rfl⟩
    obtain ⟨vv, hv⟩ : ∃ vv, vv = (l[i]'hil).2 := ⟨_, rfl⟩
    rw [← hk] at c1 hkd; rw [← hv] at c2
    clear hc hc1 hc2 hk hv hbb hil
    have b4 := below1 wr (.cells #[.int .u8 (kd : Nat), .int .i64 vv] 29)
    have bx := heap_alloc_new wr (.cells #[.int .u8 (kd : Nat), .int .i64 vv] 29)
    have D4 := hid (hD.out.below b4)
    obtain ⟨z0, z1⟩ := box_cells bx
    clear bx b4
    rcases (by omega : kd % 6 = 0 ∨ kd % 6 = 1 ∨ kd % 6 = 2 ∨ kd % 6 = 3 ∨ kd % 6 = 4 ∨ kd % 6 = 5) with hm | hm | hm | hm | hm | hm
    · have em : (kd : Int) % 6 = 0 := by omega
      clear hm
      go_wp2_with fail
      refine (Grow_any D4.out.R (by have := hlen.out; omega)).mono ?_
      rintro e w5 ⟨rfl, S5, R5, hS5, A5⟩
      have D5 := hid (D4.out.go R5 hS5 A5)
      go_wp2_with fail
      go_roundw
      case rel => exact ⟨i + 1, S5, _, by go_num, by omega, D5, hid (by have := hlen.out; rw [rkGrow_len]; omega)⟩
      case measure => simp [intOf]; omega
    · have em : (kd : Int) % 6 = 1 := by omega
      clear hm
      go_wp2_with fail
      refine (Bump_any D4.out.R vv).mono ?_
      rintro e w5 ⟨rfl, S5, R5, hS5, A5⟩
      have D5 := hid (D4.out.go R5 hS5 A5)
      go_wp2_with fail
      go_roundw
      case rel => exact ⟨i + 1, S5, _, by go_num, by omega, D5, hid (by have := hlen.out; rw [rkBump_len]; omega)⟩
      case measure => simp [intOf]; omega
    · have em : (kd : Int) % 6 = 2 := by omega
      clear hm
      go_wp2_with fail
      refine (Decay_any D4.out.R).mono ?_
      rintro e w5 ⟨rfl, S5, R5, hS5, A5⟩
      have D5 := hid (D4.out.go R5 hS5 A5)
      go_wp2_with fail
      go_roundw
      case rel => exact ⟨i + 1, S5, _, by go_num, by omega, D5, hid (by have := hlen.out; rw [rkDecay_len]; omega)⟩
      case measure => simp [intOf]; omega
    · have em : (kd : Int) % 6 = 3 := by omega
      clear hm
      go_wp2_with fail
      refine (Put_any D4.out.R vv).mono ?_
      rintro e w5 ⟨rfl, S5, R5, hS5, A5⟩
      have D5 := hid (D4.out.go R5 hS5 A5)
      go_wp2_with fail
      go_roundw
      case rel => exact ⟨i + 1, S5, _, by go_num, by omega, D5, hid (by have := hlen.out; rw [rkPut_len]; omega)⟩
      case measure => simp [intOf]; omega
    · have em : (kd : Int) % 6 = 4 := by omega
      clear hm
      go_wp2_with fail
      refine (Pop_any D4.out.R).mono ?_
      rintro e w5 (⟨rfl, rfl, -⟩ | ⟨v, rfl, -, R5, A5⟩)
      · go_wp2_with fail
        go_roundw
        case rel => exact ⟨i + 1, S, rk, by go_num, by omega, D4, hid (by have := hlen.out; omega)⟩
        case measure => simp [intOf]; omega
      · have D5 := hid (D4.out.go R5 (fun k hk => .inl hk) A5)
        go_wp2_with fail
        go_roundw
        case rel => exact ⟨i + 1, S, _, by go_num, by omega, D5, hid (by have := hlen.out; show rk.ws.length ≤ _; omega)⟩
        case measure => simp [intOf]; omega
    · have em : (kd : Int) % 6 = 5 := by omega
      clear hm
      go_wp2_with fail
      go_roundw
      case rel => exact ⟨i + 1, S, rk, by go_num, by omega, D4, hid (by have := hlen.out; omega)⟩
      case measure => simp [intOf]; omega
end Go.Proofs.Ytmimmckhnomcdaa
/- What is popped one behind the other, in plain words. -/
namespace Go.Proofs.Ytmimmckhnomcdaa

def Run : Rk → List Nat → Rk → Prop
  | a, [], b => b = a
  | a, v :: l, b => Next a v ∧ Run (popAt a (v - 1)) l b
theorem Run.snoc : ∀ {l : List Nat} {a b : Rk} {v : Nat}, Run a l b → Next b v → Run a (l ++ [v]) (popAt b (v - 1))
  | [], a, b, v, h, hv => by
    have : b = a := h
    subst this
    exact ⟨hv, rfl⟩
  | x :: l, a, b, v, h, hv => ⟨h.1, Run.snoc h.2 hv⟩
theorem Run.split : ∀ {l m : List Nat} {a b : Rk}, Run a (l ++ m) b → ∃ c, Run a l c ∧ Run c m b
  | [], m, a, b, h => ⟨a, rfl, h⟩
  | x :: l, m, a, b, h => by
    obtain ⟨c, h1, h2⟩ := Run.split (l := l) h.2
    exact ⟨c, ⟨h.1, h1⟩, h2⟩
theorem Run.det : ∀ {l : List Nat} {a b c : Rk}, Run a l b → Run a l c → b = c
  | [], a, b, c, h, k => by
    have h : b = a := h
    have k : c = a := k
    rw [h, k]
  | x :: l, a, b, c, h, k => Run.det h.2 k.2
theorem Run.same : ∀ {l : List Nat} {a b : Rk}, Run a l b → b.ws = a.ws ∧ b.st = a.st ∧ b.wt.length = a.wt.length
  | [], a, b, h => by
    have h : b = a := h
    rw [h]; exact ⟨rfl, rfl, rfl⟩
  | x :: l, a, b, h => by
    obtain ⟨h1, h2, h3⟩ := Run.same h.2
    exact ⟨h1, h2, by rw [h3]; simp [popAt]⟩
/-- who waited, and doesn't any more, was popped -/
theorem Run.mem : ∀ {l : List Nat} {a b : Rk} {u : Nat}, Run a l b → a.wt.length = a.ws.length → 1 ≤ u → wt0 a.wt (u - 1) = true → wt0 b.wt (u - 1) = false → u ∈ l
  | [], a, b, u, h, _, _, h1, h2 => by
    have h : b = a := h
    rw [h, h1] at h2; cases h2
  | x :: l, a, b, u, h, hl, hu, h1, h2 => by
    by_cases e : u = x
    · rw [e]; exact List.mem_cons_self
    · refine List.mem_cons_of_mem _ (Run.mem h.2 (by simp [popAt, hl]) hu ?_ h2)
      show wt0 (a.wt.set (x - 1) false) (u - 1) = true
      have := h.1.pos; have := h.1.le
      rw [wt0_set _ _ _ _ (by omega), if_neg (by omega)]
      exact h1
theorem Run.at {l : List Nat} {a b c : Rk} {i : Nat} (h : Run a l b) (hi : i < l.length) (hc : Run a (l.take i) c) : Next c (at0 l i) := by
  have e : l = l.take i ++ (at0 l i :: l.drop (i + 1)) := by
    rw [at0_eq hi]
    conv => lhs; rw [← List.take_append_drop i l]
    rw [List.drop_eq_getElem_cons hi]
  rw [e] at h
  obtain ⟨c', h1, h2⟩ := Run.split h
  rw [hc.det h1]
  exact h2.1
theorem Run.take {l : List Nat} {a b c : Rk} {i : Nat} (h : Run a l b) (hi : i < l.length) (hc : Run a (l.take i) c) : Run a (l.take (i + 1)) (popAt c (at0 l i - 1)) := by
  rw [List.take_succ_eq_append_getElem hi, ← at0_eq hi]
  exact hc.snoc (h.at hi hc)
/-- all of n wait -/
structure AllW (rk : Rk) (n : Nat) : Prop where
  len : rk.ws.length = n
  wt : rk.wt = List.replicate n true
theorem AllW.start (n : Nat) : AllW (rkNew n) n := ⟨by simp [rkNew], rfl⟩
theorem AllW.bump {rk : Rk} {n : Nat} (h : AllW rk n) (v : Int) : AllW (rkBump rk v) n := by
  refine ⟨by rw [rkBump_len]; exact h.len, ?_⟩
  unfold rkBump bumpAt
  split
  · split <;> exact h.wt
  · exact h.wt
theorem AllW.decay {rk : Rk} {n : Nat} (h : AllW rk n) : AllW (rkDecay rk) n := ⟨h.len, h.wt⟩
theorem trues_rep : ∀ n : Nat, trues (List.replicate n true) = n
  | 0 => rfl
  | n + 1 => by simp [List.replicate_succ, trues, trues_rep n]; omega
/-- some are put again: those of l that stand ahead of i wait -/
structure PutInv (a rk : Rk) (l : List Nat) (i : Nat) : Prop where
  ws : rk.ws = a.ws
  st : rk.st = a.st
  len : rk.wt.length = a.wt.length
  wait : ∀ j, j < i → wt0 rk.wt (at0 l j - 1) = true
theorem PutInv.put {a rk : Rk} {l : List Nat} {i x : Nat} (h : PutInv a rk l i) (hl : a.wt.length = a.ws.length) (h1 : 1 ≤ x) (h2 : x ≤ a.ws.length) : PutInv a (rkPut rk (x : Nat)) l i ∧ wt0 (rkPut rk (x : Nat)).wt (x - 1) = true := by
  have e : rkPut rk (x : Nat) = putAt rk (x - 1) := by
    have := rkPut_at (rk := rk) (k := x - 1) (by rw [h.ws]; omega)
    rw [show x - 1 + 1 = x by omega] at this
    exact this
  rw [e]
  have hs : ∀ k, wt0 (putAt rk (x - 1)).wt k = if k = x - 1 then true else wt0 rk.wt k := fun k => wt0_set _ _ _ _ (by rw [h.len]; omega)
  refine ⟨⟨h.ws, h.st, by simp [putAt, h.len], fun j hj => ?_⟩, by rw [hs, if_pos rfl]⟩
  rw [hs]
  split
  · rfl
  · exact h.wait j hj
theorem PutInv.done {a b rk : Rk} {l : List Nat} {n : Nat} (h : PutInv a rk l l.length) (hr : Run a l b) (ha : AllW a n) (hb : ∀ u, 1 ≤ u → u ≤ n → wt0 b.wt (u - 1) = false) : rk = a := by
  have hal : a.wt.length = n := by rw [ha.wt]; simp
  have hw : rk.wt = a.wt := by
    apply List.ext_getElem h.len
    intro k h1 h2
    have hkn : k < n := by omega
    have hm : k + 1 ∈ l := hr.mem (by rw [hal, ha.len]) (by omega) (by rw [ha.wt]; exact wt0_rep (by omega)) (hb (k + 1) (by omega) (by omega))
    obtain ⟨j, hj, e⟩ := List.mem_iff_getElem.1 hm
    have hwj := h.wait j hj
    rw [at0_eq hj, e, Nat.add_sub_cancel] at hwj
    have e1 : rk.wt[k] = true := by unfold wt0 at hwj; simpa [List.getD_eq_getElem?_getD, h1] using hwj
    have e2 : a.wt[k] = true := by
      have : wt0 a.wt k = true := by rw [ha.wt]; exact wt0_rep hkn
      unfold wt0 at this; simpa [List.getD_eq_getElem?_getD, h2] using this
    rw [e1, e2]
  cases rk; cases a
  obtain ⟨h1, h2, -, -⟩ := h
  simp only at h1 h2 hw
  rw [h1, h2, hw]
end Go.Proofs.Ytmimmckhnomcdaa
/- elenchuslaw12.RankBack. -/
namespace Go.Proofs.Ytmimmckhnomcdaa
open Go.RowKit Big

variable {w0 w w1 : World} {r : Nat} {rk rk' : Rk} {S S' : Nat → Prop}
/-- the list that the law makes itself, apart from the rank -/
structure Lst (w0 w : World) (S : Nat → Prop) (v : Value) (l : List Nat) : Prop where
  row : Own w 0 3 .i64 v l
  ge : ∀ k, v.ownBlock = some k → w0.heap.size ≤ k
  apart : ∀ k, v.ownBlock = some k → ¬ S k
theorem Lst.go {v : Value} {l : List Nat} (h : Lst w0 w S v l) (hS : ∀ k, S' k → S k ∨ w.heap.size ≤ k) (A : Apart S w w1) : Lst w0 w1 S' v l :=
  ⟨row_stays h.row fun k hk => A.block k (World.ownsRow.lt h.row k hk).2 (h.apart k hk), h.ge, fun k hk hs => by
    rcases hS k hs with h1 | h1
    · exact h.apart k hk h1
    · have := (World.ownsRow.lt h.row k hk).2; omega⟩
theorem Lst.nil (w0 w : World) (S : Nat → Prop) : Lst w0 w S (.slice none 0 0) [] := ⟨Own.nil _ _ _ _, fun k hk => (by cases hk), fun k hk => by cases hk⟩
/-- an append to the list: the rank stays -/
theorem Lst.app {v v' : Value} {l l' : List Nat} (h : Lst w0 w S v l) (M : Mine w0 w r rk S) (hrow : Own w1 0 3 .i64 v' l') (A : Apart (fun k => v.ownBlock = some k) w w1) (hv : v'.ownBlock = v.ownBlock ∨ ∀ k, v'.ownBlock = some k → w.heap.size ≤ k) :
    Lst w0 w1 S v' l' ∧ Mine w0 w1 r rk S := by
  refine ⟨⟨hrow, fun k hk => ?_, fun k hk hs => ?_⟩, M.R.apart A (fun k hk e => h.apart k e hk), M.hS, M.B.trans (A.below (B := w0.heap.size) M.B.size h.ge)⟩
  · rcases hv with e | h1
    · exact h.ge k (by rw [← e]; exact hk)
    · have := h1 k hk; have := M.B.size; omega
  · rcases hv with e | h1
    · exact h.apart k (by rw [← e]; exact hk) hs
    · have := h1 k hk; have := M.R.2 k hs; omega
theorem Lst.below {v : Value} {l : List Nat} (h : Lst w0 w S v l) (b : Below w.heap.size w w1) : Lst w0 w1 S v l :=
  ⟨row_stays h.row fun k hk => b.block k (World.ownsRow.lt h.row k hk).2, h.ge, h.apart⟩
theorem snoc_mem {l : List Nat} {v n : Nat} (h : ∀ i, i < l.length → 1 ≤ at0 l i ∧ at0 l i ≤ n) (h1 : 1 ≤ v) (h2 : v ≤ n) : ∀ i, i < (l ++ [v]).length → 1 ≤ at0 (l ++ [v]) i ∧ at0 (l ++ [v]) i ≤ n := by
  intro i hi
  by_cases e : i < l.length
  · rw [at0_append_left e]; exact h i e
  · obtain rfl : i = l.length := by simp at hi; omega
    rw [at0_append_right]; exact ⟨h1, h2⟩
set_option maxRecDepth 100000 in
set_option maxHeartbeats 12800000 in
theorem lawBack_any (n : Nat) (hn : n < 256) (vb : Value) (bs : List Nat) (hb : ∀ x ∈ bs, x < 256) (w : World) (hbs : At w .u8 vb bs) : Calls Try.prog 5 #[.int .u8 (n : Nat), vb] w (RBool true w) := by
  have H := hid (fixed_any w)
  have Hbs := hid hbs
  obtain ⟨pb, cb, rfl, hl1, hl2, hl3, hat⟩ := hbs
  obtain ⟨L, hL⟩ : ∃ L, L = bs.length := ⟨_, rfl⟩
  rw [← hL] at hl1 ⊢
  have HL := hid hL
  have Hb := hid hb; have Hat := hid hat
  clear hL hb hat hl3
  by_cases hL4 : L ≤ 300
  case neg =>
    have t2 : decide ((300 : Int) < (L : Nat)) = true := decide_eq_true (by omega)
    have t3 : decide (300 < L) = true := decide_eq_true (by omega)
    go_enter Try.func5, Try.ntmps5
    go_wp2_with fail
    refine H.out.mono ?_
    rintro e w1 ⟨rfl, b1⟩
    have b1 := hid b1
    go_wp2_with fail
    go_ret
    exact ⟨rfl, b1.out⟩
  case pos =>
  have t2 : decide ((300 : Int) < (L : Nat)) = false := decide_eq_false (by omega)
  have t3 : decide (300 < L) = false := decide_eq_false (by omega)
  go_enter Try.func5, Try.ntmps5
  go_wp2_with fail
  refine H.out.mono ?_
  rintro e w1 ⟨rfl, b1⟩
  have Hn := hid (New_any (n : Nat) (by omega) w1)
  have b1 := hid b1
  go_wp2_with fail
  refine Hn.out.mono ?_
  rintro e w2 ⟨r, S, rfl, R2, hS2, B2⟩
  have hz1 := b1.out.size
  rw [Int.toNat_natCast] at R2
  have D2 := hid (show Mine w w2 r (rkNew n) S from ⟨R2, fun k hk => by have := hS2 k hk; omega, bel_go B2 b1.out⟩)
  have A2 := hid (AllW.start n)
  clear R2 hS2 B2 Hn b1 hz1 H t2 t3
  go_wp2_with fail
  go_loopw [30] (fun vi wr => ∃ (i : Nat) (S : Nat → Prop) (rk : Rk), vi = .int .i64 (i : Nat) ∧ i ≤ L ∧ Hid (Mine w wr r rk S) ∧ Hid (AllW rk n)) (fun vi _ => L - (intOf vi).toNat)
  case atStart => exact ⟨0, S, _, rfl, Nat.zero_le _, D2, A2⟩
  case round =>
    obtain ⟨i, S, rk, rfl, hi, hD, hW⟩ := hrel
    clear D2 A2
    by_cases hiL : i < L
    case pos =>
      obtain ⟨b, off, rfl, hbb, hc⟩ := Hat.out (by rw [← HL.out]; omega)
      have hil : i < bs.length := by rw [← HL.out]; exact hiL
      have c1 := (hD.out.B.cell (p := ⟨b, off + i, none⟩) hbb).trans (hc i hil)
      have hx := Hb.out _ (List.getElem_mem hil)
      obtain ⟨x, hxx⟩ : ∃ x, x = bs[i] := ⟨_, rfl⟩
      rw [← hxx] at c1 hx
      clear hc hbb hxx hil
      go_wp2_with fail
      refine (Bump_any hD.out.R (1 + (x : Int))).mono ?_
      rintro e w3 ⟨rfl, S3, R3, hS3, A3⟩
      have D3 := hid (hD.out.go R3 hS3 A3)
      have hW3 := hid (hW.out.bump (1 + (x : Int)))
      clear R3 hS3 A3
      go_wp2_with fail
      refine (Decay_any D3.out.R).mono ?_
      rintro e w4 ⟨rfl, S4, R4, hS4, A4⟩
      have D4 := hid (D3.out.go R4 hS4 A4)
      clear R4 hS4 A4
      go_wp2_with fail
      go_roundw
      case rel => exact ⟨i + 1, S4, _, by go_num, by omega, D4, hid hW3.out.decay⟩
      case measure => simp [intOf]; omega
    case neg =>
      have HN := hid hD.out.R.num
      have HC : Hid (trues rk.wt + 0 = n) := hid (by rw [hW.out.wt, trues_rep]; omega)
      go_wp2_with fail
      go_loopw [44, 8] (fun vc vf wr => ∃ (c : Nat) (l : List Nat) (rk2 : Rk), vc = .int .i64 (c : Nat) ∧ c ≤ n ∧ Hid (l.length = c) ∧ Hid (Mine w wr r rk2 S) ∧ Hid (Lst w wr S vf l) ∧ Hid (Run rk l rk2) ∧ Hid (trues rk2.wt + c = n) ∧
        Hid (∀ j, j < l.length → 1 ≤ at0 l j ∧ at0 l j ≤ n)) (fun vc _ _ => n - (intOf vc).toNat)
      case atStart => exact ⟨0, [], rk, rfl, Nat.zero_le _, hid rfl, hD, hid (Lst.nil _ _ _), hid rfl, HC, hid (fun j hj => by simp at hj)⟩
      case round =>
        obtain ⟨c, l, rk2, rfl, hc, hlc, hM, hLs, hR, hT, hIn⟩ := hrel
        by_cases hcn : c < n
        case pos =>
          have hlen2 : rk2.ws.length = n := by rw [hR.out.same.1]; exact hW.out.len
          go_wp2_with fail
          refine (Pop_any hM.out.R).mono ?_
          rintro e w3 (⟨rfl, rfl, hno⟩ | ⟨v, rfl, hnx, R3, A3⟩)
          · exfalso
            obtain ⟨j, hj, hw⟩ := trues_some rk2.wt (by have := hT.out; omega)
            have := hno (j + 1) (by omega) (by have := hM.out.R.num.len; omega)
            rw [Nat.add_sub_cancel, hw] at this
            cases this
          · have M3 := hM.out.go R3 (fun k hk => .inl hk) A3
            have L3 := hLs.out.go (S' := S) (fun k hk => .inl hk) A3
            have hR3 := hid (hR.out.snoc hnx)
            have hT3 : Hid (trues (popAt rk2 (v - 1)).wt + (c + 1) = n) := hid (by have h1 := trues_set rk2.wt (v - 1) hnx.waits; have := hT.out; show trues (rk2.wt.set (v - 1) false) + (c + 1) = n; omega)
            have hv1 := hnx.pos
            have hvn : v ≤ n := by have := hnx.le; omega
            have hIn3 := hid (snoc_mem hIn.out hv1 hvn)
            obtain ⟨pv, kv, rfl⟩ := ownsRow_shape L3.row
            have b3 := below1 w3 (.cells #[.int .i64 (v : Nat)] 3)
            have M4 := hid (M3.below b3)
            have L4 := L3.below b3
            rw [hlc.out] at L4
            have Hrow : Hid ((w3.alloc (.cells #[.int .i64 (v : Nat)] 3)).ownsRow 0 3 1 (.slice pv c kv) c (ints .i64 l)) := hid (by have h := L4.row; unfold Own at h; rw [hlc.out] at h; exact h)
            have L4 := hid L4
            obtain ⟨ii, hii, hi0, hi1, hi2⟩ := info_parts infoI
            have Hii := hid hii
            have Hi := hid (show ii.zero = some (.int .i64 0) ∧ ii.size = 1 ∧ ii.bytes = 8 from ⟨hi0, hi1, hi2⟩)
            rw [hlc.out]
            clear hnx R3 A3 M3 L3 b3 hlen2 hi0 hi1 hi2 hii
            go_wp2_with (at_builtin; refine wpList_append_one rfl _ _ 38 rfl 0 3 ii (.int .i64 0) 8 Try.underlying38 Hii.out Hi.out.1 Hi.out.2.1 Hi.out.2.2 rfl (.slice pv c kv) c (ints .i64 l) rfl Hrow.out w3.heap.size (.int .i64 (v : Nat)) 3 rfl (heap_alloc_new _ _) rfl (by simp [maxLen]; omega) (by omega) (Nat.zero_le _) ?_)
            intro v4 w4 ho4 hA4 hv4
            obtain ⟨p4, k4, e4⟩ := ownsRow_shape ho4
            subst e4
            have hv4' : (Value.slice p4 (c + 1) k4).ownBlock = (Value.slice pv c kv).ownBlock ∨ ∀ k, (Value.slice p4 (c + 1) k4).ownBlock = some k → (w3.alloc (.cells #[.int .i64 (v : Nat)] 3)).heap.size ≤ k := hv4.imp id fun h k hk => by have := h k hk; simpa using this
            have hrow4 : Own w4 0 3 .i64 (.slice p4 (c + 1) k4) (l ++ [v]) := by
              unfold Own
              rw [List.length_append, hlc.out, ← ints_snoc]
              exact ho4
            obtain ⟨L5, M5⟩ := L4.out.app M4.out hrow4 hA4 hv4'
            have L5 := hid L5; have M5 := hid M5
            clear ho4 hA4 hv4 hv4' hrow4 L4 M4 Hrow
            go_wp2_with fail
            go_roundw
            case rel => exact ⟨c + 1, l ++ [v], _, by go_num, by omega, hid (by rw [List.length_append, hlc.out]; rfl), M5, L5, hR3, hT3, hIn3⟩
            case measure => simp [intOf]; omega
        case neg =>
          obtain rfl : c = n := by omega
          have hz : Hid (∀ u, 1 ≤ u → u ≤ rk2.ws.length → wt0 rk2.wt (u - 1) = false) := hid (fun u h1 h2 => by
            cases hw : wt0 rk2.wt (u - 1)
            · rfl
            · have := trues_set rk2.wt (u - 1) hw
              have := hT.out; omega)
          obtain ⟨pv, kv, rfl⟩ := ownsRow_shape hLs.out.row
          rw [hlc.out] at hLs ⊢
          have hB := hid hM.out.B
          have PN := hid (Pop_none hM.out.R hz.out)
          have hM0 := hM
          go_wp2_with fail
          refine PN.out.mono ?_
          rintro e w3 ⟨rfl, rfl⟩
          clear PN
          go_wp2_with fail
          clear hT hM hD
          have hcn' : c ≤ 256 := by omega
          go_loopw [66] (fun vi wq => ∃ (i : Nat) (S3 : Nat → Prop) (rk3 : Rk), vi = .int .i64 (i : Nat) ∧ i ≤ c ∧ Hid (Mine w wq r rk3 S3) ∧ Hid (Lst w wq S3 (.slice pv c kv) l) ∧ Hid (PutInv rk rk3 l i)) (fun vi _ => c - (intOf vi).toNat)
          case atStart => exact ⟨0, S, rk2, rfl, Nat.zero_le _, hM0, hLs, hid ⟨hR.out.same.1, hR.out.same.2.1, hR.out.same.2.2, fun j hj => by omega⟩⟩
          case round =>
            obtain ⟨i, S3, rk3, rfl, hi, hM, hL3, hP⟩ := hrel
            by_cases hic : i < c
            case pos =>
              obtain ⟨g, kv', e0, hg1, hg2, -, mg, -⟩ := hL3.out.row.cells0 (by rw [hlc.out]; omega)
              injection e0 with e1 e2 e3
              subst e1; subst e3
              obtain ⟨j, hj⟩ : ∃ j, j = i * 7 % c := ⟨_, rfl⟩
              have hjc : j < c := by rw [hj]; exact Nat.mod_lt _ (by omega)
              have E : ((i : Int) * 7) % (c : Int) = (j : Int) := by rw [hj]; push_cast; rfl
              have m1 := mg j (by rw [hlc.out]; exact hjc)
              have hxj := hIn.out j (by rw [hlc.out]; exact hjc)
              have hxi := hIn.out i (by rw [hlc.out]; exact hic)
              have hal : rk.wt.length = rk.ws.length := HN.out.len
              have hpj := hP.out.put (x := at0 l j) hal hxj.1 (by rw [hW.out.len]; exact hxj.2)
              have hpi := hpj.1.put (x := at0 l i) hal hxi.1 (by rw [hW.out.len]; exact hxi.2)
              have Hpi := hid hpi
              obtain ⟨x, hx⟩ : ∃ x, x = at0 l j := ⟨_, rfl⟩
              obtain ⟨y, hy⟩ : ∃ y, y = at0 l i := ⟨_, rfl⟩
              rw [← hx] at m1
              rw [← hx, ← hy] at Hpi
              have Hx := hid hx; have Hy := hid hy
              have hc0 : 0 < c := by omega
              have P1 := hid (Put_any hM.out.R (x : Nat))
              clear e2 mg hj hxj hxi hal hpj hpi hx hy hg1
              go_wp2_with fail
              refine P1.out.mono ?_
              rintro e w4 ⟨rfl, S4, R4, hS4, A4⟩
              have M4 := hM.out.go R4 hS4 A4
              have L4 := hL3.out.go hS4 A4
              have m2 := L4.row.cellL i (by rw [hlc.out]; exact hic)
              rw [← Hy.out] at m2
              have P2 := hid (Put_any M4.R (y : Nat))
              have M4 := hid M4; have L4 := hid L4
              clear R4 hS4 A4 m1 E P1
              go_wp2_with fail
              refine P2.out.mono ?_
              rintro e w5 ⟨rfl, S5, R5, hS5, A5⟩
              have M5 := hid (M4.out.go R5 hS5 A5)
              have L5 := hid (L4.out.go hS5 A5)
              have hP5 : Hid (PutInv rk (rkPut (rkPut rk3 (x : Nat)) (y : Nat)) l (i + 1)) := hid ⟨Hpi.out.1.ws, Hpi.out.1.st, Hpi.out.1.len, fun q hq => by
                by_cases e : q = i
                · rw [e, ← Hy.out]; exact Hpi.out.2
                · exact Hpi.out.1.wait q (by omega)⟩
              clear R5 hS5 A5 m2 P2
              go_wp2_with fail
              go_roundw
              case rel => exact ⟨i + 1, S5, _, by go_num, by omega, M5, L5, hP5⟩
              case measure => simp [intOf]; omega
            case neg =>
              obtain rfl : i = c := by omega
              have hdone : rk3 = rk := by
                have h := hP.out
                have e : l.length = i := hlc.out
                rw [← e] at h
                exact h.done hR.out hW.out (fun u h1 h2 => hz.out u h1 (by rw [hR.out.same.1, hW.out.len]; exact h2))
              subst hdone
              clear hLs hM0
              go_wp2_with fail
              go_loopw [88] (fun vq wq => ∃ (q : Nat) (rk4 : Rk), vq = .int .i64 (q : Nat) ∧ q ≤ i ∧ Hid (Mine w wq r rk4 S3) ∧ Hid (Lst w wq S3 (.slice pv i kv) l) ∧ Hid (Run rk3 (l.take q) rk4)) (fun vq _ => i - (intOf vq).toNat)
              case atStart => exact ⟨0, rk3, rfl, Nat.zero_le _, hM, hL3, hid rfl⟩
              case round =>
                obtain ⟨q, rk4, rfl, hq, hM, hL4, hR4⟩ := hrel
                by_cases hqi : q < i
                case pos =>
                  have hql : q < l.length := by rw [hlc.out]; exact hqi
                  obtain ⟨g, kv', e0, hg1, hg2, -, mg, -⟩ := hL4.out.row.cells0 (by omega)
                  injection e0 with e1 e2 e3
                  subst e1; subst e3
                  have m1 := mg q hql
                  have hnx := hR.out.at hql hR4.out
                  have hR5 := hid (hR.out.take hql hR4.out)
                  have P := hid (Pop_next hM.out.R hnx)
                  obtain ⟨x, hx⟩ : ∃ x, x = at0 l q := ⟨_, rfl⟩
                  rw [← hx] at m1 P hR5
                  clear e2 mg hnx hg1 hx hql
                  go_wp2_with fail
                  refine P.out.mono ?_
                  rintro e w4 ⟨rfl, R4, A4⟩
                  have M5 := hid (hM.out.go R4 (fun k hk => .inl hk) A4)
                  have L5 := hid (hL4.out.go (S' := S3) (fun k hk => .inl hk) A4)
                  clear R4 A4 m1 P
                  go_wp2_with fail
                  go_roundw
                  case rel => exact ⟨q + 1, _, by go_num, by omega, M5, L5, hR5⟩
                  case measure => simp [intOf]; omega
                case neg =>
                  obtain rfl : q = i := by omega
                  have hend : rk4 = rk2 := by
                    have h := hR4.out
                    rw [List.take_of_length_le (by rw [hlc.out]; exact Nat.le_refl _)] at h
                    exact h.det hR.out
                  subst hend
                  have hB4 := hid hM.out.B
                  have PN := hid (Pop_none hM.out.R hz.out)
                  go_wp2_with fail
                  refine PN.out.mono ?_
                  rintro e w4 ⟨rfl, rfl⟩
                  go_wp2_with fail
                  go_ret
                  exact ⟨rfl, hB4.out⟩
end Go.Proofs.Ytmimmckhnomcdaa
