/- Texts put together: RefCompare, RefNum, WholeSum, RefAdd, RefSub, RefOf, TbRSame, TbRClash, TbFault0, TbFault, Write, TbState, TbPut, TbBuild, TbFixed, OpenNum, OpenRows, TbFew, TbOpen, TbLawClash, Laid. -/
import Derived.Test.YtlffiomlpkopbaaDoorTablesClashCardM1
import Derived.Deep.DeepFit
import Derived.Lib.SmallJoins
import Derived.ChangeSlices
import Derived.OpenShut
import Derived.Carry
import Derived.Deep.DeepHandedRow
import Derived.ProofKit
import Derived.ChangeSame
import Derived.Test.YtlffiomlpkopbaaDoorCards
import Derived.Test.YtlffiomlpkopbaaDoorTie
import Derived.WalkKit
import Derived.Lib.LaidTab
/- elenchusref01.compare, order: the order of sizes. -/
namespace Go.Proofs.YtlffiomlpkopbaaDoor
open Go.RowKit Big

theorem ord_partD {l0 l1 : List Nat} {n m : Nat} (s0 : Small D l0) (s1 : Small D l1) (h0 : val D l0 = n) (h1 : val D l1 = m) {k : Nat} (hk0 : k < l0.length) (hk1 : k < l1.length)
    (hd : l0.drop (k + 1) = l1.drop (k + 1)) : (l0[k] < l1[k] → ord n m = -1) ∧ (l1[k] < l0[k] → ord n m = 1) := by
  refine ⟨fun h => ?_, fun h => ?_⟩
  · have := val_lt_of_part s0 hk0 hk1 hd h
    exact ord_lt (by omega)
  · have := val_lt_of_part s1 hk1 hk0 hd.symm h
    exact ord_gt (by omega)

set_option maxRecDepth 100000 in
set_option maxHeartbeats 1600000 in
theorem rcompare_any (v0 v1 : Value) (n m : Nat) (w : World) (h0 : At w .i64 v0 (dig D n)) (h1 : At w .i64 v1 (dig D m)) :
    Calls Tryd.prog 58 #[v0, v1] w (ROrd (ord n m) w) := by
  have s0 := small_dig D2 n
  have s1 := small_dig D2 m
  have k1 : (dig D n).length < (dig D m).length → n < m := lt_of_sz_lt D2
  have k2 : (dig D m).length < (dig D n).length → m < n := lt_of_sz_lt D2
  have hv0 := val_dig D2 n
  have hv1 := val_dig D2 m
  generalize dig D n = l0 at *
  generalize dig D m = l1 at *
  have Hv0 := hid hv0; clear hv0
  have Hv1 := hid hv1; clear hv1
  obtain ⟨p0, c0, rfl, a1, a2, a3, a4⟩ := h0
  obtain ⟨p1, c1, rfl, b1, b2, b3, b4⟩ := h1
  unfold maxLen at a2 b2
  by_cases hl : l0.length = l1.length
  · have Hl := hid hl
    rw [hl] at a1 ⊢; clear hl
    go_enter Tryd.func58, Tryd.ntmps58
    go_wp2_with fail
    go_loopw [5] (fun i wr => ∃ (k : Nat), k ≤ l1.length ∧ i = .int .i64 ((k : Int) - 1) ∧ Hid (l0.drop k = l1.drop k) ∧ Hid (∃ j, wr = w.drewN j)) (fun i _ => (intOf i + 1).toNat)
    case atStart => exact ⟨l1.length, Nat.le_refl _, rfl, by unfold Hid; rw [List.drop_length, ← Hl.out, List.drop_length], 0, rfl⟩
    case round =>
      obtain ⟨k, hk, rfl, hd, Hw⟩ := hrel
      by_cases hk0 : 0 < k
      · obtain ⟨k, rfl⟩ : ∃ k', k = k' + 1 := ⟨k - 1, by omega⟩
        have hkl : k < l0.length := by rw [Hl.out]; omega
        obtain ⟨b, off, rfl, hbb, hc0⟩ := a4 (Nat.lt_of_le_of_lt (Nat.zero_le _) hkl)
        obtain ⟨b', off', rfl, hbb', hc1⟩ := b4 (by omega)
        have e0 : wr.cell? ⟨b, off + k, none⟩ = some (.int .i64 (l0[k] : Nat)) := by obtain ⟨j, rfl⟩ := Hw.out; exact hc0 k hkl
        have e1 : wr.cell? ⟨b', off' + k, none⟩ = some (.int .i64 (l1[k] : Nat)) := by obtain ⟨j, rfl⟩ := Hw.out; exact hc1 k (by omega)
        have ep := ord_partD s0 s1 Hv0.out Hv1.out hkl (show k < l1.length by omega) hd.out
        have es : l0[k] = l1[k] → l0.drop k = l1.drop k := fun h => by
          rw [List.drop_eq_getElem_cons hkl, List.drop_eq_getElem_cons (show k < l1.length by omega), h, hd.out]
        generalize l0[k] = x at *
        generalize l1[k] = y at *
        have Ep : Hid ((x < y → ord n m = -1) ∧ (y < x → ord n m = 1)) := ep
        have Es : Hid (x = y → l0.drop k = l1.drop k) := es
        clear a4 b4 hc0 hc1 ep es hbb hbb' s0 s1 k1 k2
        have hlow : (0 : Int) ≤ (k : Int) + 1 - 1 := by omega
        rcases Nat.lt_trichotomy x y with hxy | hxy | hxy
        · have Hr : Hid (ord n m = -1) := Ep.out.1 hxy
          clear Ep Es
          go_wp2
          go_quiet (fail)
          go_wp2
          go_ret
          exact ⟨by rw [Hr.out]; rfl, drawn_more Hw.out⟩
        · subst hxy
          go_wp2
          go_quiet (fail)
          go_wp2
          go_quiet (fail)
          go_wp2
          go_roundw
          case rel => exact ⟨k, by omega, rfl, Es.out (by trivial), by first | exact drawn_more Hw.out | exact drawn_more (drawn_more Hw.out)⟩
          case measure => simp [intOf]
        · have Hr : Hid (ord n m = 1) := Ep.out.2 hxy
          clear Ep Es
          go_wp2
          go_quiet (fail)
          go_wp2
          go_quiet (fail)
          go_wp2
          go_ret
          exact ⟨by rw [Hr.out]; rfl, drawn_more (drawn_more Hw.out)⟩
      · obtain rfl : k = 0 := by omega
        have hn : ord n m = 0 := by
          have h := hd.out
          rw [List.drop_zero, List.drop_zero] at h
          rw [← Hv0.out, ← Hv1.out, h]; exact ord_eq _
        have Hn := hid hn
        clear hn a4 b4 k1 k2 hd
        go_wp2
        go_ret
        exact ⟨by rw [Hn.out]; rfl, Hw.out⟩
  · have hb : ((l0.length : Int) != (l1.length : Int)) = true := bne_iff_ne.2 (by omega)
    rcases Nat.lt_or_ge l0.length l1.length with h | h
    · have Hn : Hid (ord n m = -1) := ord_lt (by have := k1 h; omega)
      clear a4 b4 k1 k2
      go_enter Tryd.func58, Tryd.ntmps58
      go_wp2
      go_ret
      exact ⟨by rw [Hn.out]; rfl, 0, rfl⟩
    · have h' : ¬ l0.length < l1.length := by omega
      have Hn : Hid (ord n m = 1) := ord_gt (by have := k2 (by omega); omega)
      clear a4 b4 k1 k2
      go_enter Tryd.func58, Tryd.ntmps58
      go_wp2
      go_ret
      exact ⟨by rw [Hn.out]; rfl, 0, rfl⟩

/-- elenchusref01.order -/
theorem order_any (v0 v1 : Value) (l0 l1 : List Nat) (w : World) (h0 : At w .u64 v0 l0) (h1 : At w .u64 v1 l1) (s0 : Small W l0) (s1 : Small W l1) (c0 : l0.length ≤ 1099511627776) (c1 : l1.length ≤ 1099511627776) :
    Calls Tryd.prog 51 #[v0, v1] w (RNum .i64 (ord (val W l0) (val W l1)) w) := by
  have g0 := Digits_any v0 l0 w h0 s0 (by omega)
  have g1 : ∀ W', Below w.heap.size w W' → Calls Tryd.prog 42 #[v1] W' (RAt .i64 (dig D (val W l1)) W') := fun W' hb => Digits_any v1 l1 W' (h1.below hb) s1 (by omega)
  have G0 := hid g0; have G1 := hid g1
  obtain ⟨r, hr⟩ : ∃ r, r = ord (val W l0) (val W l1) := ⟨_, rfl⟩
  rw [← hr]
  have Hr := hid hr
  clear hr g0 g1
  go_enter Tryd.func51, Tryd.ntmps51
  go_wp2_with fail
  refine G0.out.mono ?_
  rintro e w1 ⟨v2, rfl, ha2, hb1⟩
  go_wp2_with fail
  refine (G1.out _ hb1).mono ?_
  rintro e w2 ⟨v3, rfl, ha3, hb2⟩
  have ha2' := ha2.below hb2
  go_wp2_with fail
  refine (rcompare_any v2 v3 _ _ w2 ha2' ha3).mono ?_
  rintro e w3 ⟨rfl, k, rfl⟩
  go_wp2_with fail
  go_ret
  exact ⟨by rw [Hr.out]; rfl, below_drewN (hb1.trans (hb2.mono hb1.size)) _⟩
end Go.Proofs.YtlffiomlpkopbaaDoor
/- elenchusref01's digit functions, said of numbers. -/
namespace Go.Proofs.YtlffiomlpkopbaaDoor
open Go.RowKit Big
theorem rplusN_any (v0 v1 : Value) (x y : Nat) (w : World) (h0 : At w .i64 v0 (dig D x)) (h1 : At w .i64 v1 (dig D y)) (k0 : sz D x ≤ 4398046511104) (k1 : sz D y ≤ 4398046511104) :
    Calls Tryd.prog 50 #[v0, v1] w (RAt .i64 (dig D (x + y)) w) := by
  have := rplus_any v0 v1 _ _ w h0 h1 (small_dig D2 _) (small_dig D2 _) k0 k1
  rwa [val_dig D2, val_dig D2] at this
theorem rlessN_any (v0 v1 : Value) (x y : Nat) (w : World) (h0 : At w .i64 v0 (dig D x)) (h1 : At w .i64 v1 (dig D y)) (k0 : sz D x ≤ 4398046511104) (hyx : y ≤ x) :
    Calls Tryd.prog 52 #[v0, v1] w (RAt .i64 (dig D (x - y)) w) := by
  have := rless_any v0 v1 _ _ w h0 h1 (small_dig D2 _) (small_dig D2 _) k0 (sz_mono D2 hyx) (by rw [val_dig D2, val_dig D2]; exact hyx)
  rwa [val_dig D2, val_dig D2] at this
theorem FromN_any (v : Value) (x : Nat) (w : World) (h : At w .i64 v (dig D x)) (k : sz D x ≤ 8796093022208) :
    Calls Tryd.prog 41 #[v] w (RAt .u64 (dig W x) w) := by
  have := From_any v _ w h (small_dig D2 _) k
  rwa [val_dig D2] at this
theorem WholeN_any (neg : Bool) (v : Value) (x : Nat) (w : World) (h : At w .u64 v (dig W x)) (k : sz W x ≤ 2199023255552) :
    Calls Tryd.prog 28 #[.bool neg, v] w (RInt (sg neg x) w) := by
  have := Whole_any neg v _ w h (small_dig W2 _) k
  rwa [val_dig W2] at this
end Go.Proofs.YtlffiomlpkopbaaDoor
/- whole.Add, Sub. -/
namespace Go.Proofs.YtlffiomlpkopbaaDoor
open Go.RowKit Big

theorem sg_add_same (n : Bool) (x y : Nat) : sg n (x + y) = sg n x + sg n y := by unfold sg; cases n <;> simp <;> omega
theorem sg_add_lt {n m : Bool} {x y : Nat} (h : n ≠ m) (hxy : x < y) : sg m (y - x) = sg n x + sg m y := by unfold sg; cases n <;> cases m <;> simp at h ⊢ <;> omega
theorem sg_add_ge {n m : Bool} {x y : Nat} (h : n ≠ m) (hxy : ¬ x < y) : sg n (x - y) = sg n x + sg m y := by unfold sg; cases n <;> cases m <;> simp at h ⊢ <;> omega

end Go.Proofs.YtlffiomlpkopbaaDoor
/- elenchusref01.Neg, Add. -/
namespace Go.Proofs.YtlffiomlpkopbaaDoor
open Go.RowKit Big

set_option maxRecDepth 100000 in
set_option maxHeartbeats 3200000 in
theorem RAdd_any (v0 v1 : Value) (a b : Int) (w : World) (h0 : RawAt w v0 a) (h1 : RawAt w v1 b) : Calls Tryd.prog 39 #[v0, v1] w (RInt (a + b) w) := by
  obtain ⟨n0, s0, l0, rfl, a0, b0, c0, rfl⟩ := h0
  obtain ⟨n1, s1, l1, rfl, a1, b1, c1, rfl⟩ := h1
  have g0 : ∀ W', Below w.heap.size w W' → Calls Tryd.prog 42 #[s0] W' (RAt .i64 (dig D (val W l0)) W') := fun W' hb => Digits_any s0 l0 W' (a0.below hb) b0 (by omega)
  have g1 : ∀ W', Below w.heap.size w W' → Calls Tryd.prog 42 #[s1] W' (RAt .i64 (dig D (val W l1)) W') := fun W' hb => Digits_any s1 l1 W' (a1.below hb) b1 (by omega)
  have go : ∀ W', Below w.heap.size w W' → Calls Tryd.prog 51 #[s0, s1] W' (RNum .i64 (ord (val W l0) (val W l1)) W') := fun W' hb => order_any s0 s1 l0 l1 W' (a0.below hb) (a1.below hb) b0 b1 c0 c1
  have m0 : sz W (val W l0) ≤ 1099511627776 := Nat.le_trans (sz_val W2 b0) c0
  have m1 : sz W (val W l1) ≤ 1099511627776 := Nat.le_trans (sz_val W2 b1) c1
  have G0 := hid g0; have G1 := hid g1; have GO := hid go
  obtain ⟨r, hr⟩ : ∃ r, r = sg n0 (val W l0) + sg n1 (val W l1) := ⟨_, rfl⟩
  rw [← hr]
  have Hr := hid hr
  clear hr g0 g1 go a0 a1 b0 b1 c0 c1
  generalize val W l0 = x at *
  generalize val W l1 = y at *
  have k0 : sz D x ≤ 4398046511104 := Nat.le_trans (sz4 x) (by omega)
  have k1 : sz D y ≤ 4398046511104 := Nat.le_trans (sz4 y) (by omega)
  by_cases hn : n0 = n1
  · subst hn
    have Hs : Hid (sg n0 (x + y) = r) := by unfold Hid; rw [sg_add_same, Hr.out]
    have mw : sz W (x + y) ≤ 2199023255552 := Nat.le_trans (sz_add W2 m0 m1) (by omega)
    have ks : sz D (x + y) ≤ 8796093022208 := Nat.le_trans (sz4 _) (by omega)
    go_enter Tryd.func39, Tryd.ntmps39
    go_wp2_with fail
    generalize hW : World.alloc (World.alloc (World.alloc w _) _) _ = W3
    have bw : Below w.heap.size w W3 := by rw [← hW]; exact ((below1 _ _).alloc (by simp) _).alloc (by simp; omega) _
    have hp : Pair W3 (w.heap.size + 1 + 1) 32 := by rw [← hW]; exact Pair.new2 ..
    obtain ⟨c00, c01, c10, c11, -⟩ : Two W3 w.heap.size (.bool n0) s0 (.bool n0) s1 := by rw [← hW]; exact (Two.new w _ _ _ _ _).below (below1 _ _)
    have z3 : w.heap.size + 3 ≤ W3.heap.size := by rw [← hW]; simp
    have bw' := hid bw
    clear hW bw
    go_region_held3 (fun w' => w'.cell? ⟨w.heap.size, 0, none⟩ = some (.bool n0) ∧ w'.cell? ⟨w.heap.size, 1, none⟩ = some s0 ∧ w'.cell? ⟨w.heap.size + 1, 0, none⟩ = some (.bool n0) ∧ w'.cell? ⟨w.heap.size + 1, 1, none⟩ = some s1 ∧ Pair w' (w.heap.size + 1 + 1) 32)
      (first | (go_split_ands; (try dsimp only); (repeat' apply And.intro) <;> first | assumption | exact Pair.drew ‹_› | exact Pair.below ‹_› hb9 | exact Pair.below ‹_› hb8 | exact Pair.below ‹_› hb7 | exact Pair.below ‹_› hb6 | exact Pair.below ‹_› hb5 | exact Pair.below ‹_› hb4 | exact Pair.below ‹_› hb3 | exact Pair.below ‹_› hb2 | exact Pair.below ‹_› hb1 | exact (hb9.cell (by first | omega | (simp; omega) | (simp; done))).trans ‹_› | exact (hb8.cell (by first | omega | (simp; omega) | (simp; done))).trans ‹_› | exact (hb7.cell (by first | omega | (simp; omega) | (simp; done))).trans ‹_› | exact (hb6.cell (by first | omega | (simp; omega) | (simp; done))).trans ‹_› | exact (hb5.cell (by first | omega | (simp; omega) | (simp; done))).trans ‹_› | exact (hb4.cell (by first | omega | (simp; omega) | (simp; done))).trans ‹_› | exact (hb3.cell (by first | omega | (simp; omega) | (simp; done))).trans ‹_› | exact (hb2.cell (by first | omega | (simp; omega) | (simp; done))).trans ‹_› | exact (hb1.cell (by first | omega | (simp; omega) | (simp; done))).trans ‹_› | exact Pair.set1 (Pair.set0 ‹_› _) _ _ _ | exact (cell_stored _ (by first | (dsimp only; omega) | (simp; done) | (simp; omega)) _ _).trans ‹_› | exact Pair.drew (Pair.below ‹_› (below1 _ _)) | exact Pair.below ‹_› (below1 _ _) | exact Pair.far ‹_› (by omega) hb1 | exact Pair.new .. | exact Pair.new1 .. | exact Pair.new2 .. | (go_keep; done)) | (go_keep; done))
      (first
        | (go_at_call_of 42 (s0); refine (G0.out _ bw'.out.drew).mono ?_; rintro e w1 ⟨v1, rfl, d1, hb1⟩; have hz1 : w.heap.size + 3 ≤ w1.heap.size := (by have := hb1.size; simp at this; omega))
        | (go_at_call_of 42 (s1); refine (G1.out _ (bw'.out.drew.trans (hb1.mono (B' := w.heap.size) (by simp; omega)))).mono ?_; rintro e w2 ⟨v2, rfl, d2, hb2⟩; have d1' := d1.below hb2; have hz2 := hb2.size)
        | (go_at_call 50; refine (rplusN_any v1 v2 x y _ d1' d2 k0 k1).mono ?_; rintro e w3 ⟨v3, rfl, d3, hb3⟩; have hz3 := hb3.size)
        | (go_at_call 41; refine (FromN_any v3 _ _ d3 ks).mono ?_; rintro e w4 ⟨v4, rfl, d4, hb4⟩; have hz4 := hb4.size)
        | (go_at_call 28; refine (WholeN_any n0 v4 _ _ d4 mw).mono ?_; rintro e w5 ⟨v5, rfl, hi5, hb5⟩; obtain ⟨p5, n5, c5, rfl, hi5⟩ := hi5.shape; have hpr := Pair.below (by go_split_ands; assumption) hb5; obtain ⟨_, _, q0, q1, q2, q3⟩ := hpr.cells))
    go_wp2
    exact bodyPost_ret (v := .agg #[.bool (decide (sg n0 (x + y) < 0)), .slice p5 n5 c5]) (by simp [results, Tryd.results39, go_sem, q0, q1]) rfl
      ⟨_, rfl, by rw [← Hs.out]; exact hi5.stored hpr _ _ _ _, Below.stored (((((bw'.out.drew.trans (hb1.mono (B' := w.heap.size) (by simp; omega))).trans (hb2.mono (B' := w.heap.size) (by omega))).trans (hb3.mono (B' := w.heap.size) (by omega))).trans (hb4.mono (B' := w.heap.size) (by omega))).trans (hb5.mono (B' := w.heap.size) (by omega))) (by omega) _ _⟩
  · have hb : (n0 == n1) = false := beq_eq_false_iff_ne.2 hn
    go_enter Tryd.func39, Tryd.ntmps39
    go_wp2_with fail
    generalize hW : World.alloc (World.alloc (World.alloc w _) _) _ = W3
    have bw : Below w.heap.size w W3 := by rw [← hW]; exact ((below1 _ _).alloc (by simp) _).alloc (by simp; omega) _
    have hp : Pair W3 (w.heap.size + 1 + 1) 32 := by rw [← hW]; exact Pair.new2 ..
    obtain ⟨c00, c01, c10, c11, -⟩ : Two W3 w.heap.size (.bool n0) s0 (.bool n1) s1 := by rw [← hW]; exact (Two.new w _ _ _ _ _).below (below1 _ _)
    have z3 : w.heap.size + 3 ≤ W3.heap.size := by rw [← hW]; simp
    have bw' := hid bw
    clear hW bw
    by_cases hxy : x < y
    · have Hs : Hid (sg n1 (y - x) = r) := by unfold Hid; rw [sg_add_lt hn hxy, Hr.out]
      have mw : sz W (y - x) ≤ 2199023255552 := Nat.le_trans (sz_mono W2 (by omega)) (Nat.le_trans m1 (by omega))
      have ks : sz D (y - x) ≤ 8796093022208 := Nat.le_trans (sz4 _) (by omega)
      have hc := GO.out W3 bw'.out
      rw [ord_lt (by omega)] at hc
      have Hc := hid hc
      clear hc
      refine Hc.out.mono ?_
      rintro e W4 ⟨rfl, hb0⟩
      have hz0 := hb0.size
      have e00 := (hb0.cell (p := ⟨w.heap.size, 0, none⟩) (by show w.heap.size < _; omega)).trans c00
      have e01 := (hb0.cell (p := ⟨w.heap.size, 1, none⟩) (by show w.heap.size < _; omega)).trans c01
      have e10 := (hb0.cell (p := ⟨w.heap.size + 1, 0, none⟩) (by show w.heap.size + 1 < _; omega)).trans c10
      have e11 := (hb0.cell (p := ⟨w.heap.size + 1, 1, none⟩) (by show w.heap.size + 1 < _; omega)).trans c11
      have hp4 := hp.below hb0
      have bw4 := hid (bw'.out.trans (hb0.mono (B' := w.heap.size) (by omega)))
      clear c00 c01 c10 c11 hp hb0
      go_wp2_with fail
      go_region_held3 (fun w' => w'.cell? ⟨w.heap.size, 0, none⟩ = some (.bool n0) ∧ w'.cell? ⟨w.heap.size, 1, none⟩ = some s0 ∧ w'.cell? ⟨w.heap.size + 1, 0, none⟩ = some (.bool n1) ∧ w'.cell? ⟨w.heap.size + 1, 1, none⟩ = some s1 ∧ Pair w' (w.heap.size + 1 + 1) 32)
        (first | (go_split_ands; (try dsimp only); (repeat' apply And.intro) <;> first | assumption | exact Pair.drew ‹_› | exact Pair.below ‹_› hb9 | exact Pair.below ‹_› hb8 | exact Pair.below ‹_› hb7 | exact Pair.below ‹_› hb6 | exact Pair.below ‹_› hb5 | exact Pair.below ‹_› hb4 | exact Pair.below ‹_› hb3 | exact Pair.below ‹_› hb2 | exact Pair.below ‹_› hb1 | exact (hb9.cell (by first | omega | (simp; omega) | (simp; done))).trans ‹_› | exact (hb8.cell (by first | omega | (simp; omega) | (simp; done))).trans ‹_› | exact (hb7.cell (by first | omega | (simp; omega) | (simp; done))).trans ‹_› | exact (hb6.cell (by first | omega | (simp; omega) | (simp; done))).trans ‹_› | exact (hb5.cell (by first | omega | (simp; omega) | (simp; done))).trans ‹_› | exact (hb4.cell (by first | omega | (simp; omega) | (simp; done))).trans ‹_› | exact (hb3.cell (by first | omega | (simp; omega) | (simp; done))).trans ‹_› | exact (hb2.cell (by first | omega | (simp; omega) | (simp; done))).trans ‹_› | exact (hb1.cell (by first | omega | (simp; omega) | (simp; done))).trans ‹_› | exact Pair.set1 (Pair.set0 ‹_› _) _ _ _ | exact (cell_stored _ (by first | (dsimp only; omega) | (simp; done) | (simp; omega)) _ _).trans ‹_› | exact Pair.drew (Pair.below ‹_› (below1 _ _)) | exact Pair.below ‹_› (below1 _ _) | exact Pair.far ‹_› (by omega) hb1 | exact Pair.new .. | exact Pair.new1 .. | exact Pair.new2 .. | (go_keep; done)) | (go_keep; done))
        (first
          | (go_at_call_of 42 (s1); refine (G1.out _ bw4.out.drew).mono ?_; rintro e w1 ⟨v1, rfl, d1, hb1⟩; have hz1 : w.heap.size + 3 ≤ w1.heap.size := (by have := hb1.size; simp at this; omega))
          | (go_at_call_of 42 (s0); refine (G0.out _ (bw4.out.drew.trans (hb1.mono (B' := w.heap.size) (by simp; omega)))).mono ?_; rintro e w2 ⟨v2, rfl, d2, hb2⟩; have d1' := d1.below hb2; have hz2 := hb2.size)
          | (go_at_call 52; refine (rlessN_any v1 v2 y x _ d1' d2 k1 (by omega)).mono ?_; rintro e w3 ⟨v3, rfl, d3, hb3⟩; have hz3 := hb3.size)
          | (go_at_call 41; refine (FromN_any v3 _ _ d3 ks).mono ?_; rintro e w4 ⟨v4, rfl, d4, hb4⟩; have hz4 := hb4.size)
          | (go_at_call 28; refine (WholeN_any n1 v4 _ _ d4 mw).mono ?_; rintro e w5 ⟨v5, rfl, hi5, hb5⟩; obtain ⟨p5, n5, c5, rfl, hi5⟩ := hi5.shape; have hpr := Pair.below (by go_split_ands; assumption) hb5; obtain ⟨_, _, q0, q1, q2, q3⟩ := hpr.cells))
      go_wp2
      exact bodyPost_ret (v := .agg #[.bool (decide (sg n1 (y - x) < 0)), .slice p5 n5 c5]) (by simp [results, Tryd.results39, go_sem, q0, q1]) rfl
        ⟨_, rfl, by rw [← Hs.out]; exact hi5.stored hpr _ _ _ _, Below.stored (((((bw4.out.drew.trans (hb1.mono (B' := w.heap.size) (by simp; omega))).trans (hb2.mono (B' := w.heap.size) (by omega))).trans (hb3.mono (B' := w.heap.size) (by omega))).trans (hb4.mono (B' := w.heap.size) (by omega))).trans (hb5.mono (B' := w.heap.size) (by omega))) (by omega) _ _⟩
    · have Hs : Hid (sg n0 (x - y) = r) := by unfold Hid; rw [sg_add_ge hn hxy, Hr.out]
      have mw : sz W (x - y) ≤ 2199023255552 := Nat.le_trans (sz_mono W2 (by omega)) (Nat.le_trans m0 (by omega))
      have ks : sz D (x - y) ≤ 8796093022208 := Nat.le_trans (sz4 _) (by omega)
      have hc := GO.out W3 bw'.out
      obtain ⟨o, ho, hneg⟩ : ∃ o, o = ord (x : Int) y ∧ 0 ≤ o := ⟨_, rfl, by unfold ord; (repeat' split) <;> omega⟩
      rw [← ho] at hc
      have Hc := hid hc
      clear hc ho
      refine Hc.out.mono ?_
      rintro e W4 ⟨rfl, hb0⟩
      have hz0 := hb0.size
      have e00 := (hb0.cell (p := ⟨w.heap.size, 0, none⟩) (by show w.heap.size < _; omega)).trans c00
      have e01 := (hb0.cell (p := ⟨w.heap.size, 1, none⟩) (by show w.heap.size < _; omega)).trans c01
      have e10 := (hb0.cell (p := ⟨w.heap.size + 1, 0, none⟩) (by show w.heap.size + 1 < _; omega)).trans c10
      have e11 := (hb0.cell (p := ⟨w.heap.size + 1, 1, none⟩) (by show w.heap.size + 1 < _; omega)).trans c11
      have hp4 := hp.below hb0
      have bw4 := hid (bw'.out.trans (hb0.mono (B' := w.heap.size) (by omega)))
      clear c00 c01 c10 c11 hp hb0
      go_wp2_with fail
      go_region_held3 (fun w' => w'.cell? ⟨w.heap.size, 0, none⟩ = some (.bool n0) ∧ w'.cell? ⟨w.heap.size, 1, none⟩ = some s0 ∧ w'.cell? ⟨w.heap.size + 1, 0, none⟩ = some (.bool n1) ∧ w'.cell? ⟨w.heap.size + 1, 1, none⟩ = some s1 ∧ Pair w' (w.heap.size + 1 + 1) 32)
        (first | (go_split_ands; (try dsimp only); (repeat' apply And.intro) <;> first | assumption | exact Pair.drew ‹_› | exact Pair.below ‹_› hb9 | exact Pair.below ‹_› hb8 | exact Pair.below ‹_› hb7 | exact Pair.below ‹_› hb6 | exact Pair.below ‹_› hb5 | exact Pair.below ‹_› hb4 | exact Pair.below ‹_› hb3 | exact Pair.below ‹_› hb2 | exact Pair.below ‹_› hb1 | exact (hb9.cell (by first | omega | (simp; omega) | (simp; done))).trans ‹_› | exact (hb8.cell (by first | omega | (simp; omega) | (simp; done))).trans ‹_› | exact (hb7.cell (by first | omega | (simp; omega) | (simp; done))).trans ‹_› | exact (hb6.cell (by first | omega | (simp; omega) | (simp; done))).trans ‹_› | exact (hb5.cell (by first | omega | (simp; omega) | (simp; done))).trans ‹_› | exact (hb4.cell (by first | omega | (simp; omega) | (simp; done))).trans ‹_› | exact (hb3.cell (by first | omega | (simp; omega) | (simp; done))).trans ‹_› | exact (hb2.cell (by first | omega | (simp; omega) | (simp; done))).trans ‹_› | exact (hb1.cell (by first | omega | (simp; omega) | (simp; done))).trans ‹_› | exact Pair.set1 (Pair.set0 ‹_› _) _ _ _ | exact (cell_stored _ (by first | (dsimp only; omega) | (simp; done) | (simp; omega)) _ _).trans ‹_› | exact Pair.drew (Pair.below ‹_› (below1 _ _)) | exact Pair.below ‹_› (below1 _ _) | exact Pair.far ‹_› (by omega) hb1 | exact Pair.new .. | exact Pair.new1 .. | exact Pair.new2 .. | (go_keep; done)) | (go_keep; done))
        (first
          | (go_at_call_of 42 (s0); refine (G0.out _ bw4.out.drew).mono ?_; rintro e w1 ⟨v1, rfl, d1, hb1⟩; have hz1 : w.heap.size + 3 ≤ w1.heap.size := (by have := hb1.size; simp at this; omega))
          | (go_at_call_of 42 (s1); refine (G1.out _ (bw4.out.drew.trans (hb1.mono (B' := w.heap.size) (by simp; omega)))).mono ?_; rintro e w2 ⟨v2, rfl, d2, hb2⟩; have d1' := d1.below hb2; have hz2 := hb2.size)
          | (go_at_call 52; refine (rlessN_any v1 v2 x y _ d1' d2 k0 (by omega)).mono ?_; rintro e w3 ⟨v3, rfl, d3, hb3⟩; have hz3 := hb3.size)
          | (go_at_call 41; refine (FromN_any v3 _ _ d3 ks).mono ?_; rintro e w4 ⟨v4, rfl, d4, hb4⟩; have hz4 := hb4.size)
          | (go_at_call 28; refine (WholeN_any n0 v4 _ _ d4 mw).mono ?_; rintro e w5 ⟨v5, rfl, hi5, hb5⟩; obtain ⟨p5, n5, c5, rfl, hi5⟩ := hi5.shape; have hpr := Pair.below (by go_split_ands; assumption) hb5; obtain ⟨_, _, q0, q1, q2, q3⟩ := hpr.cells))
      go_wp2
      exact bodyPost_ret (v := .agg #[.bool (decide (sg n0 (x - y) < 0)), .slice p5 n5 c5]) (by simp [results, Tryd.results39, go_sem, q0, q1]) rfl
        ⟨_, rfl, by rw [← Hs.out]; exact hi5.stored hpr _ _ _ _, Below.stored (((((bw4.out.drew.trans (hb1.mono (B' := w.heap.size) (by simp; omega))).trans (hb2.mono (B' := w.heap.size) (by omega))).trans (hb3.mono (B' := w.heap.size) (by omega))).trans (hb4.mono (B' := w.heap.size) (by omega))).trans (hb5.mono (B' := w.heap.size) (by omega))) (by omega) _ _⟩
end Go.Proofs.YtlffiomlpkopbaaDoor
/- elenchusref01.Neg, Sub, Sign, Cmp, Of. -/
namespace Go.Proofs.YtlffiomlpkopbaaDoor
open Go.RowKit Big

theorem IntAt.raw {w : World} {v : Value} {z : Int} (h : IntAt w v z) (hs : sz W z.natAbs ≤ 1099511627776) : RawAt w v z := by
  obtain ⟨s, rfl, ha⟩ := h
  refine ⟨_, s, _, rfl, ha, small_dig W2 _, hs, ?_⟩
  rw [val_dig W2]
  unfold sg
  by_cases hz : z < 0 <;> simp [hz] <;> omega
theorem RawAt.sz {w : World} {v : Value} {z : Int} (h : RawAt w v z) : Big.sz W z.natAbs ≤ 1099511627776 := by
  obtain ⟨neg, s, l, rfl, ha, hs, hl, rfl⟩ := h
  rw [sg_natAbs]
  exact Nat.le_trans (sz_val W2 hs) hl

set_option maxHeartbeats 800000 in
theorem RNeg_any (v : Value) (z : Int) (w : World) (h : RawAt w v z) : Calls Tryd.prog 40 #[v] w (RInt (-z) w) := by
  obtain ⟨neg, s, l, rfl, ha, hs, hl, rfl⟩ := h
  have g : ∀ o o', Calls Tryd.prog 28 #[.bool (!neg), s] ((w.alloc o).alloc o') (RInt (-sg neg (val W l)) ((w.alloc o).alloc o')) := fun o o' => by
    have := Whole_any (!neg) s l _ ((ha.alloc o).alloc o') hs (by omega)
    rwa [show sg (!neg) (val W l) = -sg neg (val W l) by unfold sg; cases neg <;> simp] at this
  have G := hid g
  generalize -sg neg (val W l) = r at *
  clear g ha hs hl
  go_enter Tryd.func40, Tryd.ntmps40
  go_wp2_with fail
  refine (G.out _ _).mono ?_
  rintro e w2 ⟨v2, rfl, hi2, hb2⟩
  obtain ⟨p2, n2, c2, rfl, hi2⟩ := hi2.shape
  have hpr : Pair w2 (w.heap.size + 1) 32 := Pair.below (Pair.new1 ..) hb2
  obtain ⟨_, _, q0, q1, q2, q3⟩ := hpr.cells
  have bw : Below w.heap.size w w2 := ((below1 _ _).alloc (by simp) _).trans (hb2.mono (B' := w.heap.size) (by simp; omega))
  have Hi := hid hi2
  clear hb2 hi2
  go_wp2
  exact bodyPost_ret (v := .agg #[.bool (decide (r < 0)), .slice p2 n2 c2]) (by simp [results, Tryd.results40, go_sem, q0, q1]) rfl
    ⟨_, rfl, Hi.out.stored hpr _ _ _ _, Below.stored bw (by omega) _ _⟩

set_option maxHeartbeats 1600000 in
set_option maxRecDepth 100000 in
theorem RSub_any (v0 v1 : Value) (a b : Int) (w : World) (h0 : RawAt w v0 a) (h1 : RawAt w v1 b) : Calls Tryd.prog 27 #[v0, v1] w (RInt (a - b) w) := by
  have g1 : ∀ W', Below w.heap.size w W' → Calls Tryd.prog 40 #[v1] W' (RInt (-b) W') := fun W' hb => RNeg_any v1 b W' (h1.below hb)
  have g2 : ∀ W' v, Below w.heap.size w W' → IntAt W' v (-b) → Calls Tryd.prog 39 #[v0, v] W' (RInt (a - b) W') := fun W' v hb hv => by
    have := RAdd_any v0 v a (-b) W' (h0.below hb) (hv.raw (by rw [Int.natAbs_neg]; exact h1.sz))
    rwa [show a + -b = a - b by omega] at this
  have G1 := hid g1; have G2 := hid g2
  obtain ⟨n0, s0, l0, rfl, a0, -⟩ := id h0
  obtain ⟨n1, s1, l1, rfl, a1, -⟩ := id h1
  obtain ⟨p0, c0, rfl, -⟩ := a0
  obtain ⟨p1, c1, rfl, -⟩ := a1
  generalize a - b = r at *
  clear g1 g2 h0 h1
  generalize -b = nb at *
  go_enter Tryd.func27, Tryd.ntmps27
  go_wp2_with fail
  generalize hW : World.alloc (World.alloc (World.alloc w _) _) _ = W3
  have bw : Below w.heap.size w W3 := by rw [← hW]; exact ((below1 _ _).alloc (by simp) _).alloc (by simp; omega) _
  have hp : Pair W3 (w.heap.size + 1 + 1) 32 := by rw [← hW]; exact Pair.new2 ..
  obtain ⟨c00, c01, c10, c11, -⟩ : Two W3 w.heap.size (.bool n0) (.slice p0 l0.length c0) (.bool n1) (.slice p1 l1.length c1) := by rw [← hW]; exact (Two.new w _ _ _ _ _).below (below1 _ _)
  have z3 : w.heap.size + 3 ≤ W3.heap.size := by rw [← hW]; simp
  have bw' := hid bw
  clear hW bw
  go_region_held3 (fun w' => w'.cell? ⟨w.heap.size, 0, none⟩ = some (.bool n0) ∧ w'.cell? ⟨w.heap.size, 1, none⟩ = some (.slice p0 l0.length c0) ∧ w'.cell? ⟨w.heap.size + 1, 0, none⟩ = some (.bool n1) ∧ w'.cell? ⟨w.heap.size + 1, 1, none⟩ = some (.slice p1 l1.length c1) ∧ Pair w' (w.heap.size + 1 + 1) 32)
    (first | (go_split_ands; (try dsimp only); (repeat' apply And.intro) <;> first | assumption | exact Pair.drew ‹_› | exact Pair.below ‹_› hb9 | exact Pair.below ‹_› hb8 | exact Pair.below ‹_› hb7 | exact Pair.below ‹_› hb6 | exact Pair.below ‹_› hb5 | exact Pair.below ‹_› hb4 | exact Pair.below ‹_› hb3 | exact Pair.below ‹_› hb2 | exact Pair.below ‹_› hb1 | exact (hb9.cell (by first | omega | (simp; omega) | (simp; done))).trans ‹_› | exact (hb8.cell (by first | omega | (simp; omega) | (simp; done))).trans ‹_› | exact (hb7.cell (by first | omega | (simp; omega) | (simp; done))).trans ‹_› | exact (hb6.cell (by first | omega | (simp; omega) | (simp; done))).trans ‹_› | exact (hb5.cell (by first | omega | (simp; omega) | (simp; done))).trans ‹_› | exact (hb4.cell (by first | omega | (simp; omega) | (simp; done))).trans ‹_› | exact (hb3.cell (by first | omega | (simp; omega) | (simp; done))).trans ‹_› | exact (hb2.cell (by first | omega | (simp; omega) | (simp; done))).trans ‹_› | exact (hb1.cell (by first | omega | (simp; omega) | (simp; done))).trans ‹_› | exact Pair.set1 (Pair.set0 ‹_› _) _ _ _ | exact (cell_stored _ (by first | (dsimp only; omega) | (simp; done) | (simp; omega)) _ _).trans ‹_› | exact Pair.drew (Pair.below ‹_› (below1 _ _)) | exact Pair.below ‹_› (below1 _ _) | exact Pair.far ‹_› (by omega) hb1 | exact Pair.new .. | exact Pair.new1 .. | exact Pair.new2 .. | (go_keep; done)) | (go_keep; done))
    (first
      | (go_at_call 40; refine (G1.out _ bw'.out.drew).mono ?_; rintro e w1 ⟨v1, rfl, hi1, hb1⟩; have hz1 : w.heap.size + 3 ≤ w1.heap.size := (by have := hb1.size; simp at this; omega); obtain ⟨p3, n3, c3, rfl, hi1⟩ := hi1.shape)
      | (go_at_call 39; refine (G2.out _ _ (bw'.out.drew.trans (hb1.mono (B' := w.heap.size) (by simp; omega))) hi1).mono ?_; rintro e w2 ⟨v2, rfl, hi2, hb2⟩; obtain ⟨p2, n2, c2, rfl, hi2⟩ := hi2.shape; have hpr := Pair.below (by go_split_ands; assumption) hb2; obtain ⟨_, _, q0, q1, q2, q3⟩ := hpr.cells))
  go_wp2
  exact bodyPost_ret (v := .agg #[.bool (decide (r < 0)), .slice p2 n2 c2]) (by simp [results, Tryd.results27, go_sem, q0, q1]) rfl
    ⟨_, rfl, hi2.stored hpr _ _ _ _, Below.stored ((bw'.out.drew.trans (hb1.mono (B' := w.heap.size) (by simp; omega))).trans (hb2.mono (B' := w.heap.size) (by omega))) (by omega) _ _⟩
end Go.Proofs.YtlffiomlpkopbaaDoor
/- elenchusref01.Sign, Cmp, Of. -/
namespace Go.Proofs.YtlffiomlpkopbaaDoor
open Go.RowKit Big

set_option maxHeartbeats 800000 in
theorem RSign_any (v : Value) (z : Int) (w : World) (h : RawAt w v z) : Calls Tryd.prog 17 #[v] w (RNum .i64 z.sign w) := by
  obtain ⟨neg, s, l, rfl, ha, hs, hl, hz⟩ := h
  have g : ∀ o, Calls Tryd.prog 28 #[.bool neg, s] (w.alloc o) (RInt z (w.alloc o)) := fun o => by
    rw [hz]; exact Whole_any neg s l _ (ha.alloc o) hs (by omega)
  have G := hid g
  clear g hs hl hz
  obtain ⟨p, c, rfl, -⟩ := ha
  go_enter Tryd.func17, Tryd.ntmps17
  go_wp2_with fail
  refine (G.out _).mono ?_
  rintro e w2 ⟨v2, rfl, ⟨s2, rfl, hi2⟩, hb2⟩
  have hlen := sz_eq_zero (n := z.natAbs) W2
  unfold sz at hlen
  obtain ⟨p2, c2, rfl, -⟩ := hi2
  have hpr : Pair w2 w.heap.size 32 := Pair.below (Pair.new ..) hb2
  obtain ⟨_, _, q0, q1, q2, q3⟩ := hpr.cells
  have bw : Below w.heap.size w w2 := (below1 _ _).trans (hb2.mono (B' := w.heap.size) (by simp))
  clear hb2 hpr
  rcases Int.lt_trichotomy z 0 with hz | hz | hz
  · have hs : Hid (z.sign = -1) := Int.sign_eq_neg_one_of_neg hz
    clear hlen
    go_wp2
    go_ret
    exact ⟨by rw [hs.out]; rfl, Below.stored bw (by omega) _ _⟩
  · subst hz
    have hs : Hid ((0 : Int).sign = 0) := rfl
    have h0 : (dig W (0 : Int).natAbs).length = 0 := rfl
    rw [h0]
    clear hlen h0
    go_wp2
    go_ret
    exact ⟨by rw [hs.out]; rfl, Below.stored bw (by omega) _ _⟩
  · have hs : Hid (z.sign = 1) := Int.sign_eq_one_of_pos hz
    have hneg : ¬ z < 0 := by omega
    obtain ⟨n, hn⟩ : ∃ n, n = (dig W z.natAbs).length := ⟨_, rfl⟩
    rw [← hn] at hlen ⊢
    have hn0 : ((n : Int) == 0) = false := beq_eq_false_iff_ne.2 (by omega)
    clear hlen hn
    go_wp2
    go_ret
    exact ⟨by rw [hs.out]; rfl, Below.stored bw (by omega) _ _⟩

theorem ord_sub (a b : Int) : (a - b).sign = ord a b := by
  rcases Int.lt_trichotomy a b with h | h | h
  · rw [ord_lt h, Int.sign_eq_neg_one_of_neg (by omega)]
  · subst h; rw [ord_eq]; simp
  · rw [ord_gt h, Int.sign_eq_one_of_pos (by omega)]

theorem sz_sub (a b : Int) (ha : sz W a.natAbs ≤ 549755813888) (hb : sz W b.natAbs ≤ 549755813888) : sz W (a - b).natAbs ≤ 1099511627776 :=
  Nat.le_trans (sz_mono W2 (by omega : (a - b).natAbs ≤ a.natAbs + b.natAbs)) (Nat.le_trans (sz_add W2 ha hb) (by omega))

set_option maxHeartbeats 800000 in
theorem RCmp_any (v0 v1 : Value) (a b : Int) (w : World) (h0 : RawAt w v0 a) (h1 : RawAt w v1 b) (ha : sz W a.natAbs ≤ 549755813888) (hb : sz W b.natAbs ≤ 549755813888) :
    Calls Tryd.prog 18 #[v0, v1] w (RNum .i64 (ord a b) w) := by
  have hsz := sz_sub a b ha hb
  have g1 : ∀ W', Below w.heap.size w W' → Calls Tryd.prog 27 #[v0, v1] W' (RInt (a - b) W') := fun W' hb => RSub_any v0 v1 a b W' (h0.below hb) (h1.below hb)
  have g2 : ∀ W' v, IntAt W' v (a - b) → Calls Tryd.prog 17 #[v] W' (RNum .i64 (ord a b) W') := fun W' v hv => by
    have := RSign_any v _ W' (hv.raw hsz)
    rwa [ord_sub] at this
  have G1 := hid g1; have G2 := hid g2
  obtain ⟨n0, s0, l0, rfl, a0, -⟩ := id h0
  obtain ⟨n1, s1, l1, rfl, a1, -⟩ := id h1
  clear g1 g2 hsz h0 h1 a0 a1
  generalize a - b = d at *
  generalize ord a b = r at *
  go_enter Tryd.func18, Tryd.ntmps18
  go_wp2_with fail
  refine (G1.out _ ((below1 _ _).alloc (by simp) _)).mono ?_
  rintro e w1 ⟨v1, rfl, hi1, hb1⟩
  go_wp2_with fail
  refine (G2.out _ _ hi1).mono ?_
  rintro e w2 ⟨rfl, hb2⟩
  go_wp2_with fail
  go_ret
  exact ⟨rfl, (((below1 _ _).alloc (by simp) _).trans (hb1.mono (B' := w.heap.size) (by simp; omega))).trans (hb2.mono (B' := w.heap.size) (by have := hb1.size; simp at this; omega))⟩
theorem small_one {x : Nat} (h : x < W) : Small W [x] := small_cons h (small_nil W)

theorem At.one1 (w : World) (o : Obj) (k : IntKind) (x : Nat) (t : TypeId) : At ((w.alloc o).alloc (.cells #[.int k (x : Nat)] t)) k (.slice (some ⟨w.heap.size + 1, 0, none⟩) 1 1) [x] := by
  have := At.one (w.alloc o) k x t
  rwa [size_alloc] at this
theorem sz_word {n : Nat} (h : n < W) : sz W n ≤ 1 := sz_le_of_lt W2 (by rwa [Nat.pow_one])

set_option maxHeartbeats 1600000 in
theorem ROf_any (z : Int) (w : World) (h0 : -9223372036854775808 ≤ z) (h1 : z ≤ 9223372036854775807) : Calls Tryd.prog 15 #[.int .i64 z] w (RInt z w) := by
  by_cases hz : z < 0
  · obtain ⟨n, hn⟩ : ∃ n : Nat, z = -(n : Int) - 1 := ⟨(-z - 1).toNat, by omega⟩
    have hnW : n < W := by unfold W; omega
    have hn' : n ≤ 9223372036854775807 := by omega
    subst hn
    clear h0 h1
    have hsz : sz W (sg true n).natAbs ≤ 1099511627776 := by rw [sg_natAbs]; exact Nat.le_trans (sz_word hnW) (by omega)
    have hsz1 : sz W (sg false 1).natAbs ≤ 1099511627776 := by rw [sg_natAbs]; exact Nat.le_trans (sz_word (by decide)) (by omega)
    have g1 : ∀ o o', Calls Tryd.prog 28 #[.bool true, .slice (some ⟨w.heap.size + 1, 0, none⟩) 1 1] ((w.alloc o).alloc (.cells #[.int .u64 (n : Nat)] o')) (RInt (sg true n) ((w.alloc o).alloc (.cells #[.int .u64 (n : Nat)] o'))) := fun o o' => by
      have := Whole_any true _ [n] _ (At.one1 w o .u64 n o') (small_one hnW) (by simp)
      rwa [show val W [n] = n by simp [val]] at this
    have g2 : ∀ W' o', Calls Tryd.prog 28 #[.bool false, .slice (some ⟨World.heap W' |>.size, 0, none⟩) 1 1] (W'.alloc (.cells #[.int .u64 1] o')) (RInt (sg false 1) (W'.alloc (.cells #[.int .u64 1] o'))) := fun W' o' => by
      have := Whole_any false _ [1] _ (At.oneI W' .u64 1 1 o' rfl) (small_one (by decide)) (by simp)
      rwa [show val W [1] = 1 by simp [val]] at this
    have g3 : ∀ W' v v', IntAt W' v (sg true n) → IntAt W' v' (sg false 1) → Calls Tryd.prog 27 #[v, v'] W' (RInt (-(n : Int) - 1) W') := fun W' v v' h h' => by
      have := RSub_any v v' _ _ W' (h.raw hsz) (h'.raw hsz1)
      rwa [show sg true n - sg false 1 = -(n : Int) - 1 by simp [sg]] at this
    have G1 := hid g1; have G2 := hid g2; have G3 := hid g3
    clear g1 g2 g3 hsz hsz1
    obtain ⟨r, hr⟩ : ∃ r, r = -(n : Int) - 1 := ⟨_, rfl⟩
    have G3' : Hid (∀ W' v v', IntAt W' v (sg true n) → IntAt W' v' (sg false 1) → Calls Tryd.prog 27 #[v, v'] W' (RInt r W')) := by rw [hr]; exact G3
    have G4 : Hid (∀ e w', RInt r w e w' → RInt (-(n : Int) - 1) w e w') := by rw [hr]; exact fun _ _ h => h
    refine Calls.mono ?_ G4.out
    clear hr G3
    generalize sg true n = a at *
    generalize sg false 1 = b at *
    go_enter Tryd.func15, Tryd.ntmps15
    go_wp2_with fail
    refine (G1.out _ _).mono ?_
    rintro e w1 ⟨v1, rfl, hi1, hb1⟩
    go_wp2_with fail
    refine (G2.out _ _).mono ?_
    rintro e w2 ⟨v2, rfl, hi2, hb2⟩
    have hi1' := hi1.below ((below1 _ _).trans (hb2.mono (B' := w1.heap.size) (by simp)))
    go_wp2_with fail
    refine (G3'.out _ _ _ hi1' hi2).mono ?_
    rintro e w3 ⟨v3, rfl, hi3, hb3⟩
    obtain ⟨p3, n3, c3, rfl, hi3⟩ := hi3.shape
    have z1 : w.heap.size + 2 ≤ w1.heap.size := by have := hb1.size; simp at this; omega
    have z2 : w.heap.size + 3 ≤ w2.heap.size := by have := hb2.size; simp at this; omega
    have b12 : Below w1.heap.size w1 w2 := (below1 _ _).trans (hb2.mono (B' := w1.heap.size) (by simp))
    have hpr : Pair w3 w.heap.size 32 := Pair.below (Pair.below (Pair.below (Pair.below (Pair.new ..) (below1 _ _)) hb1) b12) hb3
    obtain ⟨_, _, q0, q1, q2, q3⟩ := hpr.cells
    have bw : Below w.heap.size w w3 := ((((below1 _ _).alloc (by simp) _).trans (hb1.mono (B' := w.heap.size) (by simp; omega))).trans (b12.mono (B' := w.heap.size) (by omega))).trans (hb3.mono (B' := w.heap.size) (by omega))
    have Hi := hid hi3
    clear hb1 hb2 hb3 b12 hi1 hi1' hi2 hi3
    go_wp2
    exact bodyPost_ret (v := .agg #[.bool (decide (r < 0)), .slice p3 n3 c3]) (by simp [results, Tryd.results15, go_sem, q0, q1]) rfl
      ⟨_, rfl, Hi.out.stored hpr _ _ _ _, Below.stored bw (by omega) _ _⟩
  · obtain ⟨n, hn⟩ : ∃ n : Nat, z = (n : Int) := ⟨z.natAbs, by omega⟩
    subst hn
    have hnW : n < W := by unfold W; omega
    have g1 : ∀ o o', Calls Tryd.prog 28 #[.bool false, .slice (some ⟨w.heap.size + 1, 0, none⟩) 1 1] ((w.alloc o).alloc (.cells #[.int .u64 (n : Nat)] o')) (RInt (n : Int) ((w.alloc o).alloc (.cells #[.int .u64 (n : Nat)] o'))) := fun o o' => by
      have := Whole_any false _ [n] _ (At.one1 w o .u64 n o') (small_one hnW) (by simp)
      rwa [show sg false (val W [n]) = (n : Int) by simp [val, sg]] at this
    have G1 := hid g1
    clear g1
    go_enter Tryd.func15, Tryd.ntmps15
    go_wp2_with fail
    refine (G1.out _ _).mono ?_
    rintro e w1 ⟨v1, rfl, hi1, hb1⟩
    obtain ⟨p3, n3, c3, rfl, hi1⟩ := hi1.shape
    have z1 : w.heap.size + 2 ≤ w1.heap.size := by have := hb1.size; simp at this; omega
    have hpr : Pair w1 w.heap.size 32 := Pair.below (Pair.below (Pair.new ..) (below1 _ _)) hb1
    obtain ⟨_, _, q0, q1, q2, q3⟩ := hpr.cells
    have bw : Below w.heap.size w w1 := ((below1 _ _).alloc (by simp) _).trans (hb1.mono (B' := w.heap.size) (by simp; omega))
    have Hi := hid hi1
    clear hb1 hi1
    go_wp2
    exact bodyPost_ret (v := .agg #[.bool (decide ((n : Int) < 0)), .slice p3 n3 c3]) (by simp [results, Tryd.results15, go_sem, q0, q1]) rfl
      ⟨_, rfl, Hi.out.stored hpr _ _ _ _, Below.stored bw (by omega) _ _⟩
end Go.Proofs.YtlffiomlpkopbaaDoor
/- elenchusref16.same. -/
namespace Go.Proofs.YtlffiomlpkopbaaDoor
open Go.RowKit Big Go.WideMaps

/-- numbers, by place -/
theorem NmsIn.at {w : World} {p : Option Addr} {n c : Nat} {l : List Int} (h : NmsIn w (.slice p n c) l) (hl : 0 < l.length) : ∃ b o, p = some ⟨b, o, none⟩ ∧ b < w.heap.size ∧ ∀ i (hi : i < l.length), ∃ bn q m d,
    w.cell? ⟨b, o + i * 2, none⟩ = some (.bool bn) ∧ w.cell? ⟨b, o + i * 2 + 1, none⟩ = some (.slice q m d) ∧ RawAt w (.agg #[.bool bn, .slice q m d]) l[i] := by
  obtain ⟨-, -, -, -, h4⟩ := h.cells
  obtain ⟨b, o, e, hb, hc⟩ := h4 hl
  refine ⟨b, o, e, hb, fun i hi => ?_⟩
  obtain ⟨c, k0, bn, s, rfl, hr⟩ := hc i hi
  obtain ⟨_, q, m, d, e⟩ := hr.shp
  obtain rfl : s = .slice q m d := by injection e with e; simp at e; exact e.2
  exact ⟨bn, q, m, d, k0 0 _ rfl, k0 1 _ rfl, hr⟩
theorem tb_take_eq (a b : List Int) (k : Nat) (ha : k < a.length) (hb : k < b.length) (h : a.take k = b.take k) : (a.take (k + 1) = b.take (k + 1)) ↔ a[k] = b[k] := by
  rw [List.take_succ_eq_append_getElem ha, List.take_succ_eq_append_getElem hb, h]
  constructor
  · intro h; have := List.append_inj' h rfl; simpa using this.2
  · intro h; rw [h]

set_option maxRecDepth 100000 in
set_option maxHeartbeats 6400000 in
theorem RSame_any (va vb : Value) (a b : Ap) (w : World) (ha : ApV w va a) (hb : ApV w vb b) (ssa : ∀ z ∈ a.args, sz W z.natAbs ≤ 549755813888) (ssb : ∀ z ∈ b.args, sz W z.natAbs ≤ 549755813888) :
    Calls Tryd.prog 24 #[va, vb] w (RBool (decide (a.key = b.key)) w) := by
  obtain ⟨_, rfl, pa, ca, xa, s, rfl, hna, hra, -⟩ := ha
  obtain ⟨_, rfl, pb, cb, xb, s', rfl, hnb, hrb, -⟩ := hb
  obtain ⟨_, qa, ma, da, e⟩ := hra.shp
  obtain rfl : s = .slice qa ma da := by injection e with e; simp at e; exact e.2
  clear e
  obtain ⟨_, qb, mb, db, e⟩ := hrb.shp
  obtain rfl : s' = .slice qb mb db := by injection e with e; simp at e; exact e.2
  clear e
  obtain ⟨-, i1, i2, -, -⟩ := hna.cells
  obtain ⟨-, j1, j2, -, -⟩ := hnb.cells
  unfold maxLen at i2 j2
  have HA := hid (fun (h : 0 < a.args.length) => hna.at h)
  have HB := hid (fun (h : 0 < b.args.length) => hnb.at h)
  have Sa := hid ssa; have Sb := hid ssb
  have Hkey : Hid (a.key = b.key ↔ a.sym = b.sym ∧ a.args = b.args) := hid (by unfold Ap.key; rw [Prod.mk.injEq])
  obtain ⟨W1, hW⟩ : ∃ W1, W1 = (w.alloc (.cells #[.int .i64 a.sym, .slice pa a.args.length ca, .bool xa, .slice qa ma da] 34)).alloc (.cells #[.int .i64 b.sym, .slice pb b.args.length cb, .bool xb, .slice qb mb db] 34) := ⟨_, rfl⟩
  have b0 : Below w.heap.size w W1 := by rw [hW]; exact (below1 _ _).alloc (by simp) _
  have e0 : W1.heap[w.heap.size]? = some (.cells #[.int .i64 a.sym, .slice pa a.args.length ca, .bool xa, .slice qa ma da] 34 (0, 0)) := by rw [hW, heap_alloc_old _ _ (by simp)]; exact heap_alloc_new w _
  have e1 : W1.heap[w.heap.size + 1]? = some (.cells #[.int .i64 b.sym, .slice pb b.args.length cb, .bool xb, .slice qb mb db] 34 (0, 0)) := by rw [hW]; have := heap_alloc_new (w.alloc (.cells #[.int .i64 a.sym, .slice pa a.args.length ca, .bool xa, .slice qa ma da] 34)) (.cells #[.int .i64 b.sym, .slice pb b.args.length cb, .bool xb, .slice qb mb db] 34); rwa [size_alloc] at this
  obtain ⟨y0, y1, -, -⟩ := cells4 e0
  obtain ⟨z0, z1, -, -⟩ := cells4 e1
  have hz1 : w.heap.size + 1 < W1.heap.size := (Array.getElem?_eq_some_iff.1 e1).1
  have HB0 := hid b0
  have Y1 := hid y1; have Z1 := hid z1
  show Calls Tryd.prog 24 #[.agg #[.int .i64 a.sym, .slice pa a.args.length ca, .bool xa, .slice qa ma da], .agg #[.int .i64 b.sym, .slice pb b.args.length cb, .bool xb, .slice qb mb db]] w _
  obtain ⟨r, hr⟩ : ∃ r, r = decide (a.key = b.key) := ⟨_, rfl⟩
  rw [← hr]
  have Hr := hid hr
  obtain ⟨la, hla⟩ : ∃ la, la = a.args := ⟨_, rfl⟩
  obtain ⟨lb, hlb⟩ : ∃ lb, lb = b.args := ⟨_, rfl⟩
  rw [← hla] at i1 HA Sa Hkey hW e0 y1 Y1 hna ⊢
  rw [← hlb] at j1 HB Sb Hkey hW e1 z1 Z1 hnb ⊢
  generalize a.sym = sa at *
  generalize b.sym = sb at *
  obtain ⟨A, hA⟩ : ∃ A, A = la.length := ⟨_, rfl⟩
  obtain ⟨B, hB⟩ : ∃ B, B = lb.length := ⟨_, rfl⟩
  have HLA := hid hA; have HLB := hid hB
  rw [← hA] at i1 y1 Y1 hW ⊢
  rw [← hB] at j1 z1 Z1 hW ⊢
  clear hna hnb hra hrb ssa ssb b0 e0 e1 hr hA hB hla hlb
  by_cases hs : sa = sb
  · have hd : (sa != sb) = false := by simpa using hs
    have Hs := hid hs
    clear hs
    by_cases hl : A = B
    · have hd2 : ((A : Int) != (B : Int)) = false := by simp; omega
      have Hl := hid hl
      clear hl
      go_enter Tryd.func24, Tryd.ntmps24
      go_upto_region 1 with fail
      rw [← hW]
      clear hW
      go_wp2_with fail
      clear y0 z0 y1 z1 hd hd2
      go_loopw [23] (fun i wr => ∃ k : Nat, k ≤ A ∧ i = .int .i64 (k : Nat) ∧ Hid (la.take k = lb.take k) ∧ Hid (Below W1.heap.size W1 wr)) (fun i _ => A - (intOf i).toNat)
      case atStart => exact ⟨0, Nat.zero_le _, rfl, hid (by simp), hid (Below.refl _ _)⟩
      case round =>
        obtain ⟨k, hk, rfl, HT, HBw⟩ := hrel
        by_cases hlt : k < A
        · have hka : k < la.length := by rw [← HLA.out]; exact hlt
          have hkb : k < lb.length := by rw [← HLB.out, ← Hl.out]; exact hlt
          have hlt' : (k : Int) < (A : Int) := by omega
          have hltb' : (k : Int) < (B : Int) := by have := Hl.out; omega
          obtain ⟨b1, o1, rfl, hb1', hc1⟩ := HA.out (by omega)
          obtain ⟨b2, o2, rfl, hb2', hc2⟩ := HB.out (by omega)
          obtain ⟨n1, q1, m1, d1, y2, y3, r1⟩ := hc1 k hka
          obtain ⟨n2, q2, m2, d2, z2, z3, r2⟩ := hc2 k hkb
          have hbw := tbGo HBw.out HB0.out
          have HCmp := hid (fun W' (hw : Below wr.heap.size wr W') => RCmp_any _ _ la[k] lb[k] W' (r1.below (tbGo hw hbw)) (r2.below (tbGo hw hbw)) (Sa.out _ (List.getElem_mem hka)) (Sb.out _ (List.getElem_mem hkb)))
          have hod := ord_ne la[k] lb[k]
          have hnx := tb_take_eq la lb k hka hkb HT.out
          have HSS : Hid (∀ w', Below wr.heap.size wr w' → w'.cell? ⟨w.heap.size, 1, none⟩ = some (.slice (some ⟨b1, o1, none⟩) A ca) ∧ w'.cell? ⟨w.heap.size + 1, 1, none⟩ = some (.slice (some ⟨b2, o2, none⟩) B cb) ∧ w'.cell? ⟨b1, o1 + k * 2, none⟩ = some (.bool n1) ∧ w'.cell? ⟨b1, o1 + k * 2 + 1, none⟩ = some (.slice q1 m1 d1) ∧ w'.cell? ⟨b2, o2 + k * 2, none⟩ = some (.bool n2) ∧ w'.cell? ⟨b2, o2 + k * 2 + 1, none⟩ = some (.slice q2 m2 d2) ∧ Below wr.heap.size wr w') := hid fun w' hw => by
            have h0 := tbGo hw HBw.out
            have h1 := tbGo hw hbw
            exact ⟨(h0.cell (p := ⟨w.heap.size, 1, none⟩) (by show w.heap.size < _; omega)).trans Y1.out, (h0.cell (p := ⟨w.heap.size + 1, 1, none⟩) hz1).trans Z1.out, (h1.cell (p := ⟨b1, o1 + k * 2, none⟩) hb1').trans y2, (h1.cell (p := ⟨b1, o1 + k * 2 + 1, none⟩) hb1').trans y3, (h1.cell (p := ⟨b2, o2 + k * 2, none⟩) hb2').trans z2, (h1.cell (p := ⟨b2, o2 + k * 2 + 1, none⟩) hb2').trans z3, hw⟩
          have Hne : Hid (la[k] ≠ lb[k] → la ≠ lb) := hid (fun h e => h (by subst e; rfl))
          obtain ⟨P, hP⟩ : ∃ P : Bool, P = decide (la[k] ≠ lb[k]) := ⟨_, rfl⟩
          have HP := hid hP
          rw [← hP] at hod
          have Hod := hid hod; have Hnx := hid hnx
          generalize ord la[k] lb[k] = od at *
          clear hc1 hc2 r1 r2 y2 y3 z2 z3 hod hnx hP
          have HBw0 := hid hbw
          clear hbw
          go_upto_region 6 with fail
          go_region_held3 (fun w' => w'.cell? ⟨w.heap.size, 1, none⟩ = some (.slice (some ⟨b1, o1, none⟩) A ca) ∧ w'.cell? ⟨w.heap.size + 1, 1, none⟩ = some (.slice (some ⟨b2, o2, none⟩) B cb) ∧ w'.cell? ⟨b1, o1 + k * 2, none⟩ = some (.bool n1) ∧ w'.cell? ⟨b1, o1 + k * 2 + 1, none⟩ = some (.slice q1 m1 d1) ∧ w'.cell? ⟨b2, o2 + k * 2, none⟩ = some (.bool n2) ∧ w'.cell? ⟨b2, o2 + k * 2 + 1, none⟩ = some (.slice q2 m2 d2) ∧ Below wr.heap.size wr w')
            (first | exact HSS.out _ (Below.drew (Below.refl _ _)) | (refine HSS.out _ (tbGo hb1 ?_); go_split_ands; assumption))
            (first | (go_at_call 18; (with_reducible refine (HCmp.out _ (by go_split_ands; assumption)).mono ?_); rintro e w1 ⟨rfl, hb1⟩))
          go_split_ands
          have HBb := hid (show Below wr.heap.size wr w1 by assumption)
          cases P with
          | true =>
            have hod : (od != 0) = true := Hod.out
            have hne : la ≠ lb := Hne.out (by have := HP.out; simpa using this.symm)
            have hres : r = false := by rw [Hr.out]; simp only [decide_eq_false_iff_not]; intro hk; exact hne (Hkey.out.1 hk).2
            subst hres
            go_wp2
            go_ret
            exact ⟨rfl, tbGo HBb.out HBw0.out⟩
          | false =>
            have hod : (od != 0) = false := Hod.out
            have HT2 : Hid (la.take (k + 1) = lb.take (k + 1)) := hid (Hnx.out.2 (by have := HP.out; simpa using this.symm))
            go_wp2_with fail
            go_roundw
            case rel => exact ⟨k + 1, by omega, by go_num, HT2, hid (tbGo HBb.out HBw.out)⟩
            case measure => simp [intOf]; omega
        · obtain rfl : k = A := by omega
          have heq : la = lb := by
            have := HT.out
            rw [HLA.out, List.take_length, ← HLA.out, Hl.out, HLB.out, List.take_length] at this
            exact this
          have hres : r = true := by rw [Hr.out]; simp only [decide_eq_true_eq]; exact Hkey.out.2 ⟨Hs.out, heq⟩
          have HBw0 := hid (tbGo HBw.out HB0.out)
          subst hres
          clear heq
          go_wp2
          go_ret
          exact ⟨rfl, HBw0.out⟩
    · have hd2 : ((A : Int) != (B : Int)) = true := by simp; omega
      have hres : r = false := by rw [Hr.out]; simp only [decide_eq_false_iff_not]; intro hk; have := (Hkey.out.1 hk).2; rw [HLA.out, HLB.out] at hl; exact hl (by rw [this])
      subst hres
      go_enter Tryd.func24, Tryd.ntmps24
      go_upto_region 1 with fail
      rw [← hW]
      clear hW
      go_wp2
      go_ret
      exact ⟨rfl, HB0.out⟩
  · have hd : (sa != sb) = true := by simpa using hs
    have hres : r = false := by rw [Hr.out]; simp only [decide_eq_false_iff_not]; intro hk; exact hs (Hkey.out.1 hk).1
    subst hres
    go_enter Tryd.func24, Tryd.ntmps24
    go_upto_region 1 with fail
    rw [← hW]
    clear hW
    go_wp2
    go_ret
    exact ⟨rfl, HB0.out⟩
end Go.Proofs.YtlffiomlpkopbaaDoor
/- elenchusref16.Clash. -/
namespace Go.Proofs.YtlffiomlpkopbaaDoor
open Go.RowKit Big Go.WideMaps

def tbE (v0 : Value) : SFact := ⟨fun v _ => v = v0, fun _ _ _ h _ => h⟩
theorem vlen23 {l : List Value} (h : l.length = 23) : ∃ a0 a1 a2 a3 a4 a5 a6 a7 a8 a9 a10 a11 a12 a13 a14 a15 a16 a17 a18 a19 a20 a21 a22, l = [a0, a1, a2, a3, a4, a5, a6, a7, a8, a9, a10, a11, a12, a13, a14, a15, a16, a17, a18, a19, a20, a21, a22] := by
  match l, h with
  | [a0, a1, a2, a3, a4, a5, a6, a7, a8, a9, a10, a11, a12, a13, a14, a15, a16, a17, a18, a19, a20, a21, a22], _ => exact ⟨a0, a1, a2, a3, a4, a5, a6, a7, a8, a9, a10, a11, a12, a13, a14, a15, a16, a17, a18, a19, a20, a21, a22, rfl⟩
set_option maxRecDepth 100000 in
set_option maxHeartbeats 6400000 in
theorem RRClash_any (v : Value) (l : List Ap) (w : World) (h : ApsIn w v l) (hz : ∀ a ∈ l, ApSz a) (hl : l.length ≤ 1000) :
    Calls Tryd.prog 11 #[v] w (RClash (tbClash l) w) := by
  have hsh := h
  obtain ⟨p, cap, rfl, i1, i2, -, -⟩ := hsh
  unfold maxLen at i2
  have HH := hid (fun (hp : 0 < l.length) => h.at hp)
  have HZ := hid hz
  have HN := hid (fun (hj : ∀ j, j < l.length → tbBad l j = false) => tbClash_none hj)
  have HHit := hid (fun (i k : Nat) (hk : k < l.length) (hik : i < k) => @tb_hit l i k hk hik)
  have HRow := hid (fun (k : Nat) (hk : k < l.length) => @tb_row l k hk)
  obtain ⟨R, hR⟩ : ∃ R, R = tbClash l := ⟨_, rfl⟩
  have HR := hid hR
  obtain ⟨L, hL⟩ : ∃ L, L = l.length := ⟨_, rfl⟩
  have HL := hid hL
  rw [← hL] at i1 hl ⊢
  rw [← hR]
  clear h hz hR hL
  go_enter Tryd.func11, Tryd.ntmps11
  go_wp2_with fail
  go_loopw [9] (fun i wr => ∃ k : Nat, k ≤ L ∧ i = .int .i64 (k : Nat) ∧ Hid (∀ j, j < k → tbBad l j = false) ∧ Hid (Below w.heap.size w wr)) (fun i _ => L - (intOf i).toNat)
  case atStart => exact ⟨0, Nat.zero_le _, rfl, hid (fun j hj => by omega), hid (Below.refl _ _)⟩
  case round =>
    obtain ⟨k, hk, rfl, HJ, HB⟩ := hrel
    by_cases hlt : k < L
    · have hka : k < l.length := by rw [← HL.out]; exact hlt
      have hlt' : (k : Int) < (L : Int) := by omega
      go_wp2_with fail
      obtain ⟨wo, rfl⟩ : ∃ wo, wo = wr := ⟨_, rfl⟩
      go_loopw [6] (fun i wr => ∃ j : Nat, j ≤ k ∧ i = .int .i64 (j : Nat) ∧ Hid (∀ j' (hj : j' < j) (hj2 : j' < l.length), l[j'].key = (l[k]'hka).key → l[j'].val = (l[k]'hka).val) ∧ Hid (Below w.heap.size w wr)) (fun i _ => k - (intOf i).toNat)
      case atStart => exact ⟨0, Nat.zero_le _, rfl, hid (fun j hj => by omega), HB⟩
      case round =>
        obtain ⟨j, hj, rfl, HI, HB2⟩ := hrel
        by_cases hjk : j < k
        · have hja : j < l.length := by omega
          have hjk' : (j : Int) < (k : Int) := by omega
          have hjL' : (j : Int) < (L : Int) := by omega
          obtain ⟨b, o, rfl, hb, hc⟩ := HH.out (by omega)
          obtain ⟨pa, ca, n1, q1, m1, d1, x0, x1, x2, x3, hq1, -, r1, -⟩ := hc j hja
          obtain ⟨pb, cb, n2, q2, m2, d2, y0, y1, y2, y3, hq2, -, r2, -⟩ := hc k hka
          have hbw := HB2.out
          have s1 := HZ.out _ (List.getElem_mem hja)
          have s2 := HZ.out _ (List.getElem_mem hka)
          have HSm := hid (fun W' (hw : Below wr.heap.size wr W') => RSame_any (.agg #[.int .i64 l[j].sym, .slice pa l[j].args.length ca, .bool n1, .slice q1 m1 d1]) (.agg #[.int .i64 l[k].sym, .slice pb l[k].args.length cb, .bool n2, .slice q2 m2 d2]) l[j] l[k] W' ⟨_, rfl, hq1.below (tbGo hw hbw)⟩ ⟨_, rfl, hq2.below (tbGo hw hbw)⟩ (fun z hz => Nat.le_trans (s1.2.2 z hz) (by decide)) (fun z hz => Nat.le_trans (s2.2.2 z hz) (by decide)))
          have HCmp := hid (fun W' (hw : Below wr.heap.size wr W') => RCmp_any _ _ l[j].val l[k].val W' (r1.below (tbGo hw hbw)) (r2.below (tbGo hw hbw)) (Nat.le_trans s1.2.1 (by decide)) (Nat.le_trans s2.2.1 (by decide)))
          have hod := ord_ne l[j].val l[k].val
          have HSS : Hid (∀ w', Below wr.heap.size wr w' → w'.cell? ⟨b, o + j * 4, none⟩ = some (.int .i64 l[j].sym) ∧ w'.cell? ⟨b, o + j * 4 + 1, none⟩ = some (.slice pa l[j].args.length ca) ∧ w'.cell? ⟨b, o + j * 4 + 2, none⟩ = some (.bool n1) ∧ w'.cell? ⟨b, o + j * 4 + 3, none⟩ = some (.slice q1 m1 d1) ∧ w'.cell? ⟨b, o + k * 4, none⟩ = some (.int .i64 l[k].sym) ∧ w'.cell? ⟨b, o + k * 4 + 1, none⟩ = some (.slice pb l[k].args.length cb) ∧ w'.cell? ⟨b, o + k * 4 + 2, none⟩ = some (.bool n2) ∧ w'.cell? ⟨b, o + k * 4 + 3, none⟩ = some (.slice q2 m2 d2) ∧ Below wr.heap.size wr w') := hid fun w' hw => by
            have h1 := tbGo hw hbw
            exact ⟨(h1.cell (p := ⟨b, o + j * 4, none⟩) hb).trans x0, (h1.cell (p := ⟨b, o + j * 4 + 1, none⟩) hb).trans x1, (h1.cell (p := ⟨b, o + j * 4 + 2, none⟩) hb).trans x2, (h1.cell (p := ⟨b, o + j * 4 + 3, none⟩) hb).trans x3, (h1.cell (p := ⟨b, o + k * 4, none⟩) hb).trans y0, (h1.cell (p := ⟨b, o + k * 4 + 1, none⟩) hb).trans y1, (h1.cell (p := ⟨b, o + k * 4 + 2, none⟩) hb).trans y2, (h1.cell (p := ⟨b, o + k * 4 + 3, none⟩) hb).trans y3, hw⟩
          have HHj := hid (HHit.out j k hka hjk HJ.out)
          have HIj : Hid ((l[j].key = l[k].key → l[j].val = l[k].val) → ∀ j' (hj : j' < j + 1) (hj2 : j' < l.length), l[j'].key = l[k].key → l[j'].val = l[k].val) := hid (fun h j' hj' hj2 => by
            by_cases e : j' = j
            · subst e; exact h
            · exact HI.out j' (by omega) hj2)
          have HI' := hid (fun (j' : Nat) (hj' : j' < j) => HI.out j' hj' (by omega))
          obtain ⟨P, hP⟩ : ∃ P : Bool, P = decide (l[j].key = l[k].key) := ⟨_, rfl⟩
          obtain ⟨Q, hQ⟩ : ∃ Q : Bool, Q = decide (l[j].val ≠ l[k].val) := ⟨_, rfl⟩
          have HP := hid hP; have HQ := hid hQ
          rw [← hP] at HSm
          rw [← hQ] at hod
          have Hod := hid hod
          generalize ord l[j].val l[k].val = od at *
          generalize l[j].sym = sj at *
          generalize l[k].sym = sk at *
          generalize l[j].args.length = aj at *
          generalize l[k].args.length = ak at *
          clear hc hq1 hq2 r1 r2 x0 x1 x2 x3 y0 y1 y2 y3 hbw hod s1 s2 hP hQ
          cases P with
          | true =>
            go_upto_region 7 with fail
            go_region_held3 (fun w' => w'.cell? ⟨b, o + j * 4, none⟩ = some (.int .i64 sj) ∧ w'.cell? ⟨b, o + j * 4 + 1, none⟩ = some (.slice pa aj ca) ∧ w'.cell? ⟨b, o + j * 4 + 2, none⟩ = some (.bool n1) ∧ w'.cell? ⟨b, o + j * 4 + 3, none⟩ = some (.slice q1 m1 d1) ∧ w'.cell? ⟨b, o + k * 4, none⟩ = some (.int .i64 sk) ∧ w'.cell? ⟨b, o + k * 4 + 1, none⟩ = some (.slice pb ak cb) ∧ w'.cell? ⟨b, o + k * 4 + 2, none⟩ = some (.bool n2) ∧ w'.cell? ⟨b, o + k * 4 + 3, none⟩ = some (.slice q2 m2 d2) ∧ Below wr.heap.size wr w')
              (first | exact HSS.out _ (Below.drew (Below.refl _ _)) | (refine HSS.out _ (tbGo hb1 ?_); go_split_ands; assumption))
              (first | (go_at_call 18; (with_reducible refine (HCmp.out _ (by go_split_ands; assumption)).mono ?_); rintro e w1 ⟨rfl, hb1⟩) | (go_at_call 24; (with_reducible refine (HSm.out _ (by go_split_ands; assumption)).mono ?_); rintro e w1 ⟨rfl, hb1⟩))
            go_split_ands
            have HBb := hid (show Below wr.heap.size wr w1 by assumption)
            cases Q with
            | true =>
              have hod : (od != 0) = true := Hod.out
              have hfin := HHj.out (by have := HP.out; simpa using this.symm) (by have := HQ.out; simpa using this.symm) HI'.out
              have Hfin := hid (HR.out.trans hfin)
              go_wp2
              exact bodyPost_ret (v := .tuple #[.int .i64 (j : Nat), .int .i64 (k : Nat), .bool true]) (by simp [results, Tryd.results11, go_sem]) rfl ⟨by rw [Hfin.out], tbGo HBb.out HB2.out⟩
            | false =>
              have hod : (od != 0) = false := Hod.out
              have HI2 := hid (HIj.out (fun _ => by have := HQ.out; simpa using this.symm))
              go_wp2_with fail
              go_roundw
              case rel => exact ⟨j + 1, by omega, by go_num, HI2, hid (tbGo HBb.out HB2.out)⟩
              case measure => simp [intOf]; omega
          | false =>
            go_upto_region 7 with fail
            refine wp_region_facts (w0 := wr) 23 0 [17, 18, 19, 20, 21, 22, 23, 24, 25, 26, 27, 28, 29, 30, 31, 32, 33, 34, 35, 36, 37, 38, 39] [u17, u18, u19, u20, u21, u22, u23, u24, u25, u26, u27, u28, u29, u30, u31, u32, u33, u34, u35, u36, u37, u38, u39]
              (fun i => match i with | 0 => tbE (.slice (some ⟨b, o, none⟩) L cap) | 1 => tbE (.int .i64 (j : Nat)) | 2 => tbE (.pointer (some ⟨b, o + j * 4, none⟩)) | 3 => tbE (.agg #[.int .i64 sj, .slice pa aj ca, .bool n1, .slice q1 m1 d1]) | 4 => tbE (.slice (some ⟨b, o, none⟩) L cap) | 5 => tbE (.int .i64 (k : Nat)) | 6 => tbE (.pointer (some ⟨b, o + k * 4, none⟩)) | 7 => tbE (.agg #[.int .i64 sk, .slice pb ak cb, .bool n2, .slice q2 m2 d2]) | 8 => tbE (.bool false) | 9 => tbE (.bool false) | 10 => tbE (undef) | 11 => tbE (undef) | 12 => tbE (undef) | 13 => tbE (undef) | 14 => tbE (undef) | 15 => tbE (undef) | 16 => tbE (undef) | 17 => tbE (undef) | 18 => tbE (undef) | 19 => tbE (undef) | 20 => tbE (undef) | 21 => tbE (undef) | _ => tbE (.bool false)) [] (by kernel_rfl) (by kernel_rfl) (by kernel_rfl) (by kernel_rfl) (by decide) rfl (by kernel_rfl) rfl (by simp) ?he1 ?_ ?_ ?_
            case he1 => simp only [putAll, Act.put, List.setIfInBounds_toArray, List.set_cons_zero, List.set_cons_succ]
            · intro i hi; simp at hi
            · intro i o hi ho vs wx hvl hb hdep K hK
              have hvs := vlen23 hvl
              obtain ⟨s17, s18, s19, s20, s21, s22, s23, s24, s25, s26, s27, s28, s29, s30, s31, s32, s33, s34, s35, s36, s37, s38, s39, rfl⟩ := hvs
              clear hvl
              have hk5 := HSS.out wx hb
              obtain ⟨h0, h1, h2, h3, h4, h5, h6, h7, -⟩ := hk5
              rcases i with _ | _ | _ | _ | _ | _ | _ | _ | _ | _ | _ | _ | _ | _ | _ | _ | _ | _ | _ | _ | _ | _ | _ | i
              all_goals (simp only [List.getElem?_toArray, List.getElem?_cons_zero, List.getElem?_cons_succ, Option.some.injEq] at ho)
              all_goals try (subst ho)
              all_goals try simp only [putAll, Act.put, List.setIfInBounds_toArray, List.set_cons_zero, List.set_cons_succ]
              · go_simp
                have hK' := hK.out
                simp only [putAll, Act.put, List.setIfInBounds_toArray, List.set_cons_zero, List.set_cons_succ] at hK'
                exact hK' _ _ rfl (Below.refl _ _) (by simp)
              · go_simp
                have hK' := hK.out
                simp only [putAll, Act.put, List.setIfInBounds_toArray, List.set_cons_zero, List.set_cons_succ] at hK'
                exact hK' _ _ rfl (Below.refl _ _) (by simp)
              · have e0 : s17 = _ := hdep ⟨0, .data⟩ (by simp) rfl
                have e0 := e0.symm
                subst e0
                have e1 : s18 = _ := hdep ⟨1, .data⟩ (by simp) rfl
                have e1 := e1.symm
                subst e1
                go_simp
                have hK' := hK.out
                simp only [putAll, Act.put, List.setIfInBounds_toArray, List.set_cons_zero, List.set_cons_succ] at hK'
                exact hK' _ _ rfl (Below.refl _ _) (by simp)
              · have e2 : s19 = _ := hdep ⟨2, .data⟩ (by simp) rfl
                have e2 := e2.symm
                subst e2
                go_simp
                have hK' := hK.out
                simp only [putAll, Act.put, List.setIfInBounds_toArray, List.set_cons_zero, List.set_cons_succ] at hK'
                exact hK' _ _ rfl (Below.refl _ _) (by simp)
              · go_simp
                have hK' := hK.out
                simp only [putAll, Act.put, List.setIfInBounds_toArray, List.set_cons_zero, List.set_cons_succ] at hK'
                exact hK' _ _ rfl (Below.refl _ _) (by simp)
              · go_simp
                have hK' := hK.out
                simp only [putAll, Act.put, List.setIfInBounds_toArray, List.set_cons_zero, List.set_cons_succ] at hK'
                exact hK' _ _ rfl (Below.refl _ _) (by simp)
              · have e4 : s21 = _ := hdep ⟨4, .data⟩ (by simp) rfl
                have e4 := e4.symm
                subst e4
                have e5 : s22 = _ := hdep ⟨5, .data⟩ (by simp) rfl
                have e5 := e5.symm
                subst e5
                go_simp
                have hK' := hK.out
                simp only [putAll, Act.put, List.setIfInBounds_toArray, List.set_cons_zero, List.set_cons_succ] at hK'
                exact hK' _ _ rfl (Below.refl _ _) (by simp)
              · have e6 : s23 = _ := hdep ⟨6, .data⟩ (by simp) rfl
                have e6 := e6.symm
                subst e6
                go_simp
                have hK' := hK.out
                simp only [putAll, Act.put, List.setIfInBounds_toArray, List.set_cons_zero, List.set_cons_succ] at hK'
                exact hK' _ _ rfl (Below.refl _ _) (by simp)
              · have e3 : s20 = _ := hdep ⟨3, .data⟩ (by simp) rfl
                have e3 := e3.symm
                subst e3
                have e7 : s24 = _ := hdep ⟨7, .data⟩ (by simp) rfl
                have e7 := e7.symm
                subst e7
                go_simp
                refine (HSm.out wx hb).mono ?_
                rintro e wy ⟨rfl, hby⟩
                go_wp2_with fail
                have hK' := hK.out
                simp only [putAll, Act.put, List.setIfInBounds_toArray, List.set_cons_zero, List.set_cons_succ] at hK'
                exact hK' _ _ rfl hby (by simp)
              · have e8 : s25 = _ := hdep ⟨8, .data⟩ (by simp) rfl
                have e8 := e8.symm
                subst e8
                go_simp
                have hK' := hK.out
                simp only [putAll, Act.put, List.setIfInBounds_toArray, List.set_cons_zero, List.set_cons_succ] at hK'
                exact hK' _ _ rfl (Below.refl _ _) (by simp)
              · go_simp
                have eg : s26 = _ := hdep ⟨9, .guard⟩ (by simp) rfl
                have eg := eg.symm
                subst eg
                first | go_simp | skip
                try rw [if_neg (by simp [undef])]
                have hK' := hK.out
                simp only [putAll, Act.put, List.setIfInBounds_toArray, List.set_cons_zero, List.set_cons_succ] at hK'
                exact hK' _ _ rfl (Below.refl _ _) (by simp)
              · go_simp
                have eg : s26 = _ := hdep ⟨9, .guard⟩ (by simp) rfl
                have eg := eg.symm
                subst eg
                first | go_simp | skip
                try rw [if_neg (by simp [undef])]
                have hK' := hK.out
                simp only [putAll, Act.put, List.setIfInBounds_toArray, List.set_cons_zero, List.set_cons_succ] at hK'
                exact hK' _ _ rfl (Below.refl _ _) (by simp)
              · go_simp
                have eg : s26 = _ := hdep ⟨9, .guard⟩ (by simp) rfl
                have eg := eg.symm
                subst eg
                first | go_simp | skip
                try rw [if_neg (by simp [undef])]
                have hK' := hK.out
                simp only [putAll, Act.put, List.setIfInBounds_toArray, List.set_cons_zero, List.set_cons_succ] at hK'
                exact hK' _ _ rfl (Below.refl _ _) (by simp)
              · go_simp
                have eg : s26 = _ := hdep ⟨9, .guard⟩ (by simp) rfl
                have eg := eg.symm
                subst eg
                first | go_simp | skip
                try rw [if_neg (by simp [undef])]
                have hK' := hK.out
                simp only [putAll, Act.put, List.setIfInBounds_toArray, List.set_cons_zero, List.set_cons_succ] at hK'
                exact hK' _ _ rfl (Below.refl _ _) (by simp)
              · go_simp
                have eg : s26 = _ := hdep ⟨9, .guard⟩ (by simp) rfl
                have eg := eg.symm
                subst eg
                first | go_simp | skip
                try rw [if_neg (by simp [undef])]
                have hK' := hK.out
                simp only [putAll, Act.put, List.setIfInBounds_toArray, List.set_cons_zero, List.set_cons_succ] at hK'
                exact hK' _ _ rfl (Below.refl _ _) (by simp)
              · go_simp
                have eg : s26 = _ := hdep ⟨9, .guard⟩ (by simp) rfl
                have eg := eg.symm
                subst eg
                first | go_simp | skip
                try rw [if_neg (by simp [undef])]
                have hK' := hK.out
                simp only [putAll, Act.put, List.setIfInBounds_toArray, List.set_cons_zero, List.set_cons_succ] at hK'
                exact hK' _ _ rfl (Below.refl _ _) (by simp)
              · go_simp
                have eg : s26 = _ := hdep ⟨9, .guard⟩ (by simp) rfl
                have eg := eg.symm
                subst eg
                first | go_simp | skip
                try rw [if_neg (by simp [undef])]
                have hK' := hK.out
                simp only [putAll, Act.put, List.setIfInBounds_toArray, List.set_cons_zero, List.set_cons_succ] at hK'
                exact hK' _ _ rfl (Below.refl _ _) (by simp)
              · go_simp
                have eg : s26 = _ := hdep ⟨9, .guard⟩ (by simp) rfl
                have eg := eg.symm
                subst eg
                first | go_simp | skip
                try rw [if_neg (by simp [undef])]
                have hK' := hK.out
                simp only [putAll, Act.put, List.setIfInBounds_toArray, List.set_cons_zero, List.set_cons_succ] at hK'
                exact hK' _ _ rfl (Below.refl _ _) (by simp)
              · go_simp
                have eg : s26 = _ := hdep ⟨9, .guard⟩ (by simp) rfl
                have eg := eg.symm
                subst eg
                first | go_simp | skip
                try rw [if_neg (by simp [undef])]
                have hK' := hK.out
                simp only [putAll, Act.put, List.setIfInBounds_toArray, List.set_cons_zero, List.set_cons_succ] at hK'
                exact hK' _ _ rfl (Below.refl _ _) (by simp)
              · go_simp
                have eg : s26 = _ := hdep ⟨9, .guard⟩ (by simp) rfl
                have eg := eg.symm
                subst eg
                first | go_simp | skip
                try rw [if_neg (by simp [undef])]
                have hK' := hK.out
                simp only [putAll, Act.put, List.setIfInBounds_toArray, List.set_cons_zero, List.set_cons_succ] at hK'
                exact hK' _ _ rfl (Below.refl _ _) (by simp)
              · go_simp
                have eg : s26 = _ := hdep ⟨9, .guard⟩ (by simp) rfl
                have eg := eg.symm
                subst eg
                first | go_simp | skip
                try rw [if_neg (by simp [undef])]
                have hK' := hK.out
                simp only [putAll, Act.put, List.setIfInBounds_toArray, List.set_cons_zero, List.set_cons_succ] at hK'
                exact hK' _ _ rfl (Below.refl _ _) (by simp)
              · go_simp
                have eg : s26 = _ := hdep ⟨9, .guard⟩ (by simp) rfl
                have eg := eg.symm
                subst eg
                first | go_simp | skip
                try rw [if_neg (by simp [undef])]
                have hK' := hK.out
                simp only [putAll, Act.put, List.setIfInBounds_toArray, List.set_cons_zero, List.set_cons_succ] at hK'
                exact hK' _ _ rfl (Below.refl _ _) (by simp)
              · have e9 : s26 = _ := hdep ⟨9, .data⟩ (by simp) rfl
                have e9 := e9.symm
                subst e9
                go_simp
                have hK' := hK.out
                simp only [putAll, Act.put, List.setIfInBounds_toArray, List.set_cons_zero, List.set_cons_succ] at hK'
                exact hK' _ _ rfl (Below.refl _ _) (by simp)
              · omega
            · intro vs wx hvl hb hf hdist
              have hvs := vlen23 hvl
              obtain ⟨s17, s18, s19, s20, s21, s22, s23, s24, s25, s26, s27, s28, s29, s30, s31, s32, s33, s34, s35, s36, s37, s38, s39, rfl⟩ := hvs
              have f22 : s39 = _ := hf 22 (by decide)
              have f22 := f22.symm
              subst f22
              have HBb := hid hb
              clear hf hvl hdist
              refine wpAny_done (by kernel_rfl) ?_ _
              try simp only [putAll, Act.put, List.setIfInBounds_toArray, List.set_cons_zero, List.set_cons_succ]
              have HI2 := hid (HIj.out (fun h => by have := HP.out; simp [h] at this))
              go_wp2_with fail
              go_roundw
              case rel => exact ⟨j + 1, by omega, by go_num, HI2, hid (tbGo HBb.out HB2.out)⟩
              case measure => simp [intOf]; omega
        · obtain rfl : j = k := by omega
          have HJ2 : Hid (∀ j', j' < j + 1 → tbBad l j' = false) := hid (fun j' hj' => by
            by_cases e : j' = j
            · subst e; exact HRow.out j' hka (fun i hi => HI.out i hi (by omega))
            · exact HJ.out j' (by omega))
          go_wp2_with fail
          go_roundw
          case rel => exact ⟨j + 1, by omega, by go_num, HJ2, HB2⟩
          case measure => simp [intOf]; omega
    · obtain rfl : k = L := by omega
      have hfin := HN.out (fun j hj => HJ.out j (by rw [HL.out]; exact hj))
      have Hfin := hid (HR.out.trans hfin)
      clear hfin
      go_wp2
      exact bodyPost_ret (v := .tuple #[.int .i64 0, .int .i64 0, .bool false]) (by simp [results, Tryd.results11, go_sem]) rfl ⟨by rw [Hfin.out], HB.out⟩
end Go.Proofs.YtlffiomlpkopbaaDoor
/- tables.fault's two questions. -/
namespace Go.Proofs.YtlffiomlpkopbaaDoor
open Go.RowKit Big Go.WideMaps

/-- a symbol's three cells -/
def SyQ (_w : World) (c : List Value) (s : Sy) : Prop := c = [.string ⟨s.name.toArray⟩, .int .i64 s.arity, .int .i64 s.sort]
abbrev SysIn := LsIn 3 SyQ
theorem SysIn.below {w w' : World} {v : Value} {l : List Sy} (h : SysIn w v l) (hb : Below w.heap.size w w') : SysIn w' v l := LsIn.below (Q := SyQ) (fun h _ => h) h hb
theorem SysIn.at {w : World} {p : Option Addr} {n c : Nat} {l : List Sy} (h : SysIn w (.slice p n c) l) (hl : 0 < l.length) : ∃ b o, p = some ⟨b, o, none⟩ ∧ b < w.heap.size ∧ ∀ i (hi : i < l.length),
    w.cell? ⟨b, o + i * 3, none⟩ = some (.string ⟨l[i].name.toArray⟩) ∧ w.cell? ⟨b, o + i * 3 + 1, none⟩ = some (.int .i64 l[i].arity) ∧ w.cell? ⟨b, o + i * 3 + 2, none⟩ = some (.int .i64 l[i].sort) := by
  obtain ⟨-, -, -, -, h4⟩ := h.cells
  obtain ⟨b, o, e, hb, hc⟩ := h4 hl
  refine ⟨b, o, e, hb, fun i hi => ?_⟩
  obtain ⟨c, k0, rfl⟩ := hc i hi
  exact ⟨k0 0 _ rfl, k0 1 _ rfl, k0 2 _ rfl⟩
/-- a variable that holds a slice -/
def BoxS (w : World) (g : Nat) (T : TypeId) (p : Option Addr) (n c : Nat) : Prop := w.heap[g]? = some (.cells #[.slice p n c] T (0, 0))
theorem BoxS.below {w w' : World} {g : Nat} {T : TypeId} {p : Option Addr} {n c : Nat} (h : BoxS w g T p n c) (hb : Below w.heap.size w w') : BoxS w' g T p n c := (hb.block g (Array.getElem?_eq_some_iff.1 h).1).trans h
theorem BoxS.cell {w : World} {g : Nat} {T : TypeId} {p : Option Addr} {n c : Nat} (h : BoxS w g T p n c) : w.cell? ⟨g, 0, none⟩ = some (.slice p n c) := by rw [cell_of_row w g 0 _ T (0, 0) h]; rfl

set_option maxRecDepth 100000 in
set_option maxHeartbeats 3200000 in
theorem noSym_any (v : Value) (a : Ap) (syms : List Sy) (g : Nat) (ps : Option Addr) (cs : Nat) (w : World) (ha : ApV w v a) (hg : BoxS w g 27 ps syms.length cs) :
    Calls Tryd.prog 35 #[v, .pointer (some ⟨g, 0, none⟩)] w (RBool (tbNoSym syms a) w) := by
  obtain ⟨c, rfl, pa, ca, bn, s, rfl, hn, hr, hw⟩ := ha
  obtain ⟨_, pm, nm, cm, e⟩ := hr.shp
  obtain rfl : s = .slice pm nm cm := by injection e with e; simp at e; exact e.2
  clear e
  obtain ⟨W1, hW⟩ : ∃ W1, W1 = w.alloc (.cells #[.int .i64 a.sym, .slice pa a.args.length ca, .bool bn, .slice pm nm cm] 34) := ⟨_, rfl⟩
  have b0 : Below w.heap.size w W1 := by rw [hW]; exact below1 w _
  have e0 : W1.heap[w.heap.size]? = some (.cells #[.int .i64 a.sym, .slice pa a.args.length ca, .bool bn, .slice pm nm cm] 34 (0, 0)) := by rw [hW]; exact heap_alloc_new w _
  obtain ⟨y0, -, -, -⟩ := cells4 e0
  have z0 := (hg.below b0).cell
  have HB := hid b0
  obtain ⟨L, hL⟩ : ∃ L, L = syms.length := ⟨_, rfl⟩
  have hres : tbNoSym syms a = (decide (a.sym < 0) || decide ((L : Int) ≤ a.sym)) := by rw [hL]; rfl
  rw [hres]
  rw [← hL] at z0
  clear hn hr hw b0 e0 hg hL hres
  show Calls Tryd.prog 35 #[.agg #[.int .i64 a.sym, .slice pa a.args.length ca, .bool bn, .slice pm nm cm], .pointer (some ⟨g, 0, none⟩)] w _
  generalize a.args.length = na at *
  generalize a.sym = sy at *
  by_cases h1 : sy < 0
  · have hd : decide (sy < 0) = true := by simpa using h1
    rw [hd]
    go_enter Tryd.func35, Tryd.ntmps35
    go_upto_region 1 with fail
    rw [← hW]
    clear hW
    go_wp2
    go_ret
    exact ⟨by simp, HB.out⟩
  · have hd : decide (sy < 0) = false := by simpa using h1
    rw [hd]
    by_cases h2 : (L : Int) ≤ sy
    · have hd2 : decide ((L : Int) ≤ sy) = true := by simpa using h2
      rw [hd2]
      go_enter Tryd.func35, Tryd.ntmps35
      go_upto_region 1 with fail
      rw [← hW]
      clear hW
      go_wp2
      go_ret
      exact ⟨by simp, HB.out⟩
    · have hd2 : decide ((L : Int) ≤ sy) = false := by simpa using h2
      rw [hd2]
      go_enter Tryd.func35, Tryd.ntmps35
      go_upto_region 1 with fail
      rw [← hW]
      clear hW
      go_wp2
      go_ret
      exact ⟨by simp, HB.out⟩

set_option maxRecDepth 100000 in
set_option maxHeartbeats 3200000 in
theorem badCount_any (v : Value) (a : Ap) (syms : List Sy) (g : Nat) (ps : Option Addr) (cs : Nat) (w : World) (ha : ApV w v a) (hg : BoxS w g 27 ps syms.length cs) (hs : SysIn w (.slice ps syms.length cs) syms) (hn : tbNoSym syms a = false) :
    Calls Tryd.prog 36 #[v, .pointer (some ⟨g, 0, none⟩)] w (RBool (tbBadCount syms a) w) := by
  obtain ⟨c, rfl, pa, ca, bn, s, rfl, hnm, hr, hw⟩ := ha
  obtain ⟨_, pm, nm, cm, e⟩ := hr.shp
  obtain rfl : s = .slice pm nm cm := by injection e with e; simp at e; exact e.2
  clear e
  have hrange : 0 ≤ a.sym ∧ a.sym < (syms.length : Int) := by
    unfold tbNoSym at hn
    simp at hn
    omega
  obtain ⟨sy, hsy⟩ : ∃ sy : Nat, a.sym = (sy : Int) := ⟨a.sym.toNat, by omega⟩
  have hsl : sy < syms.length := by omega
  obtain ⟨bs, os, rfl, hbs, hcs⟩ := hs.at (by omega)
  obtain ⟨-, k1, -⟩ := hcs sy hsl
  have hres : tbBadCount syms a = decide ((a.args.length : Int) ≠ syms[sy].arity) := by
    unfold tbBadCount
    rw [hsy]
    simp [hsl]
  rw [hres]
  obtain ⟨W1, hW⟩ : ∃ W1, W1 = w.alloc (.cells #[.int .i64 a.sym, .slice pa a.args.length ca, .bool bn, .slice pm nm cm] 34) := ⟨_, rfl⟩
  have b0 : Below w.heap.size w W1 := by rw [hW]; exact below1 w _
  have e0 : W1.heap[w.heap.size]? = some (.cells #[.int .i64 a.sym, .slice pa a.args.length ca, .bool bn, .slice pm nm cm] 34 (0, 0)) := by rw [hW]; exact heap_alloc_new w _
  have HS : Hid (∀ w', Below W1.heap.size W1 w' → w'.cell? ⟨w.heap.size, 0, none⟩ = some (.int .i64 (sy : Nat)) ∧ w'.cell? ⟨w.heap.size, 1, none⟩ = some (.slice pa a.args.length ca) ∧ w'.cell? ⟨g, 0, none⟩ = some (.slice (some ⟨bs, os, none⟩) syms.length cs) ∧ w'.cell? ⟨bs, os + sy * 3 + 1, none⟩ = some (.int .i64 syms[sy].arity) ∧ True) := hid (fun w' hb => by
    have f0 := (hb.block w.heap.size (Array.getElem?_eq_some_iff.1 e0).1).trans e0
    have f1 := cells4 f0
    have hb2 := tbGo hb b0
    exact ⟨by rw [f1.1, hsy], f1.2.1, (hg.below hb2).cell, (hb2.cell (p := ⟨bs, os + sy * 3 + 1, none⟩) hbs).trans k1, trivial⟩)
  have HB := hid b0
  have hlt' : (sy : Int) < (syms.length : Int) := by omega
  show Calls Tryd.prog 36 #[.agg #[.int .i64 a.sym, .slice pa a.args.length ca, .bool bn, .slice pm nm cm], .pointer (some ⟨g, 0, none⟩)] w _
  rw [hsy] at hW ⊢
  generalize syms[sy].arity = ar at *
  clear hnm hr hw b0 e0 hg hres hcs k1 hrange hn hs hsl
  generalize a.args.length = na at *
  generalize syms.length = L at *
  go_enter Tryd.func36, Tryd.ntmps36
  go_upto_region 1 with fail
  rw [← hW]
  clear hW
  go_region_held3 (fun w' => w'.cell? ⟨w.heap.size, 0, none⟩ = some (.int .i64 (sy : Nat)) ∧ w'.cell? ⟨w.heap.size, 1, none⟩ = some (.slice pa na ca) ∧ w'.cell? ⟨g, 0, none⟩ = some (.slice (some ⟨bs, os, none⟩) L cs) ∧ w'.cell? ⟨bs, os + sy * 3 + 1, none⟩ = some (.int .i64 ar) ∧ True)
    (first | exact HS.out _ (Below.drew (Below.refl _ _)) | (go_split_ands; refine ⟨?_, ?_, ?_, ?_, trivial⟩ <;> assumption))
    (fail)
  have hne : ((na : Int) != ar) = decide ((na : Int) ≠ ar) := by rw [Bool.eq_iff_iff]; simp
  go_wp2
  go_ret
  exact ⟨by rw [hne] <;> rfl, Below.drew HB.out⟩
end Go.Proofs.YtlffiomlpkopbaaDoor
/- tables.fault: the first error. -/
namespace Go.Proofs.YtlffiomlpkopbaaDoor
open Go.RowKit Big Go.WideMaps

/-- any of what is said, by place -/
theorem any_take_next {α : Type} (f : α → Bool) (l : List α) (k : Nat) (h : k < l.length) (h0 : (l.take k).any f = false) (h1 : f l[k] = false) : (l.take (k + 1)).any f = false := by
  rw [List.take_succ_eq_append_getElem h, List.any_append, h0]
  simp [h1]
theorem any_hit {α : Type} (f : α → Bool) (l : List α) (k : Nat) (h : k < l.length) (h1 : f l[k] = true) : l.any f = true := List.any_eq_true.2 ⟨_, List.getElem_mem h, h1⟩
/-- what IndexFunc answers -/
def RIxs (f : Bool) (w : World) (e : Ending) (w' : World) : Prop := ∃ z : Int, e = .returned (.int .i64 z) ∧ decide (0 ≤ z) = f ∧ Below w.heap.size w w'
set_option maxRecDepth 100000 in
set_option maxHeartbeats 3200000 in
theorem indexNoSym_any (v : Value) (l : List Ap) (syms : List Sy) (g : Nat) (ps : Option Addr) (cs : Nat) (w : World) (h : ApsIn w v l) (hg : BoxS w g 27 ps syms.length cs) (hl : l.length ≤ 1000) :
    Calls Tryd.prog 47 #[v, .func (.func 35) #[] #[.pointer (some ⟨g, 0, none⟩)]] w (RIxs (l.any (tbNoSym syms)) w) := by
  have hsh := h
  obtain ⟨p, cap, rfl, i1, i2, -, -⟩ := hsh
  unfold maxLen at i2
  have HH := hid (fun (hp : 0 < l.length) => h.at hp)
  have HC := hid (fun (k : Nat) (hk : k < l.length) (u : Value) (w' : World) (hb : Below w.heap.size w w') (hu : ApV w' u l[k]) => noSym_any u l[k] syms g ps cs w' hu (hg.below hb))
  have HN := hid (fun (k : Nat) (hk : k < l.length) => any_take_next (tbNoSym syms) l k hk)
  have HX := hid (fun (k : Nat) (hk : k < l.length) => any_hit (tbNoSym syms) l k hk)
  have H0 : Hid ((l.take 0).any (tbNoSym syms) = false) := hid (by simp)
  have HA : Hid ((l.take l.length).any (tbNoSym syms) = l.any (tbNoSym syms)) := hid (by rw [List.take_length])
  obtain ⟨R, hR⟩ : ∃ R, R = l.any (tbNoSym syms) := ⟨_, rfl⟩
  have HR := hid hR
  obtain ⟨L, hL⟩ : ∃ L, L = l.length := ⟨_, rfl⟩
  have HL := hid hL
  rw [← hL] at i1 hl ⊢
  rw [← hR]
  clear h hR hL hg
  go_enter Tryd.func47, Tryd.ntmps47
  go_wp2_with fail
  go_loopw [8] (fun i wr => ∃ k : Nat, k ≤ L ∧ i = .int .i64 (k : Nat) ∧ Hid ((l.take k).any (tbNoSym syms) = false) ∧ Hid (Below w.heap.size w wr)) (fun i _ => L - (intOf i).toNat)
  case atStart => exact ⟨0, Nat.zero_le _, rfl, H0, hid (Below.refl _ _)⟩
  case round =>
    obtain ⟨k, hk, rfl, HT, HB⟩ := hrel
    by_cases hlt : k < L
    · have hka : k < l.length := by rw [← HL.out]; exact hlt
      have hlt' : (k : Int) < (L : Int) := by omega
      obtain ⟨b, o, rfl, hb, hc⟩ := HH.out (by omega)
      obtain ⟨pa, ca, n1, q1, m1, d1, x0, x1, x2, x3, hq, -, -, -⟩ := hc k hka
      have x0 := (HB.out.cell (p := ⟨b, o + k * 4, none⟩) hb).trans x0
      have x1 := (HB.out.cell (p := ⟨b, o + k * 4 + 1, none⟩) hb).trans x1
      have x2 := (HB.out.cell (p := ⟨b, o + k * 4 + 2, none⟩) hb).trans x2
      have x3 := (HB.out.cell (p := ⟨b, o + k * 4 + 3, none⟩) hb).trans x3
      have HCk := hid (HC.out k hka _ wr HB.out ⟨_, rfl, hq.below HB.out⟩)
      have HNk := hid (HN.out k hka HT.out)
      have HXk := hid (HX.out k hka)
      generalize tbNoSym syms l[k] = r at *
      generalize l[k].sym = sk at *
      generalize l[k].args.length = ak at *
      clear hc hq
      go_wp2_with fail
      refine HCk.out.mono ?_
      rintro e w1 ⟨rfl, b1⟩
      have HB1 := hid (tbGo b1 HB.out)
      cases r with
      | false =>
        have HT2 := hid (HNk.out rfl)
        go_wp2_with fail
        go_roundw
        case rel => exact ⟨k + 1, by omega, by go_num, HT2, HB1⟩
        case measure => simp [intOf]; omega
      | true =>
        have hres : R = true := by rw [HR.out]; exact HXk.out rfl
        subst hres
        go_wp2
        go_ret
        exact ⟨_, rfl, by simp, HB1.out⟩
    · obtain rfl : k = L := by omega
      have hres : R = false := by rw [HR.out, ← HA.out, ← HL.out]; exact HT.out
      subst hres
      go_wp2
      go_ret
      exact ⟨_, rfl, by simp, HB.out⟩
set_option maxRecDepth 100000 in
set_option maxHeartbeats 1600000 in
theorem containsNoSym_any (v : Value) (l : List Ap) (syms : List Sy) (g : Nat) (ps : Option Addr) (cs : Nat) (w : World) (h : ApsIn w v l) (hg : BoxS w g 27 ps syms.length cs) (hl : l.length ≤ 1000) :
    Calls Tryd.prog 37 #[v, .func (.func 35) #[] #[.pointer (some ⟨g, 0, none⟩)]] w (RBool (l.any (tbNoSym syms)) w) := by
  have Hc := hid (indexNoSym_any v l syms g ps cs w h hg hl)
  obtain ⟨pa, ca, rfl, i1, i2, i3, i4⟩ := h
  clear i4 hg
  generalize l.any (tbNoSym syms) = f at *
  go_enter Tryd.func37, Tryd.ntmps37
  go_wp2_with fail
  refine Hc.out.mono ?_
  rintro e w1 ⟨z, rfl, hz, b1⟩
  go_wp2
  go_ret
  exact ⟨rfl, b1⟩
set_option maxRecDepth 100000 in
set_option maxHeartbeats 3200000 in
theorem indexCount_any (v : Value) (l : List Ap) (syms : List Sy) (g : Nat) (ps : Option Addr) (cs : Nat) (w : World) (h : ApsIn w v l) (hg : BoxS w g 27 ps syms.length cs) (hs : SysIn w (.slice ps syms.length cs) syms) (hn : l.any (tbNoSym syms) = false) (hl : l.length ≤ 1000) :
    Calls Tryd.prog 47 #[v, .func (.func 36) #[] #[.pointer (some ⟨g, 0, none⟩)]] w (RIxs (l.any (tbBadCount syms)) w) := by
  have hsh := h
  obtain ⟨p, cap, rfl, i1, i2, -, -⟩ := hsh
  unfold maxLen at i2
  have HH := hid (fun (hp : 0 < l.length) => h.at hp)
  have HC := hid (fun (k : Nat) (hk : k < l.length) (u : Value) (w' : World) (hb : Below w.heap.size w w') (hu : ApV w' u l[k]) => badCount_any u l[k] syms g ps cs w' hu (hg.below hb) (hs.below hb) (by have := List.any_eq_false.1 hn l[k] (List.getElem_mem hk); simpa using this))
  have HN := hid (fun (k : Nat) (hk : k < l.length) => any_take_next (tbBadCount syms) l k hk)
  have HX := hid (fun (k : Nat) (hk : k < l.length) => any_hit (tbBadCount syms) l k hk)
  have H0 : Hid ((l.take 0).any (tbBadCount syms) = false) := hid (by simp)
  have HA : Hid ((l.take l.length).any (tbBadCount syms) = l.any (tbBadCount syms)) := hid (by rw [List.take_length])
  obtain ⟨R, hR⟩ : ∃ R, R = l.any (tbBadCount syms) := ⟨_, rfl⟩
  have HR := hid hR
  obtain ⟨L, hL⟩ : ∃ L, L = l.length := ⟨_, rfl⟩
  have HL := hid hL
  rw [← hL] at i1 hl ⊢
  rw [← hR]
  clear h hR hL hg hs hn
  go_enter Tryd.func47, Tryd.ntmps47
  go_wp2_with fail
  go_loopw [8] (fun i wr => ∃ k : Nat, k ≤ L ∧ i = .int .i64 (k : Nat) ∧ Hid ((l.take k).any (tbBadCount syms) = false) ∧ Hid (Below w.heap.size w wr)) (fun i _ => L - (intOf i).toNat)
  case atStart => exact ⟨0, Nat.zero_le _, rfl, H0, hid (Below.refl _ _)⟩
  case round =>
    obtain ⟨k, hk, rfl, HT, HB⟩ := hrel
    by_cases hlt : k < L
    · have hka : k < l.length := by rw [← HL.out]; exact hlt
      have hlt' : (k : Int) < (L : Int) := by omega
      obtain ⟨b, o, rfl, hb, hc⟩ := HH.out (by omega)
      obtain ⟨pa, ca, n1, q1, m1, d1, x0, x1, x2, x3, hq, -, -, -⟩ := hc k hka
      have x0 := (HB.out.cell (p := ⟨b, o + k * 4, none⟩) hb).trans x0
      have x1 := (HB.out.cell (p := ⟨b, o + k * 4 + 1, none⟩) hb).trans x1
      have x2 := (HB.out.cell (p := ⟨b, o + k * 4 + 2, none⟩) hb).trans x2
      have x3 := (HB.out.cell (p := ⟨b, o + k * 4 + 3, none⟩) hb).trans x3
      have HCk := hid (HC.out k hka _ wr HB.out ⟨_, rfl, hq.below HB.out⟩)
      have HNk := hid (HN.out k hka HT.out)
      have HXk := hid (HX.out k hka)
      generalize tbBadCount syms l[k] = r at *
      generalize l[k].sym = sk at *
      generalize l[k].args.length = ak at *
      clear hc hq
      go_wp2_with fail
      refine HCk.out.mono ?_
      rintro e w1 ⟨rfl, b1⟩
      have HB1 := hid (tbGo b1 HB.out)
      cases r with
      | false =>
        have HT2 := hid (HNk.out rfl)
        go_wp2_with fail
        go_roundw
        case rel => exact ⟨k + 1, by omega, by go_num, HT2, HB1⟩
        case measure => simp [intOf]; omega
      | true =>
        have hres : R = true := by rw [HR.out]; exact HXk.out rfl
        subst hres
        go_wp2
        go_ret
        exact ⟨_, rfl, by simp, HB1.out⟩
    · obtain rfl : k = L := by omega
      have hres : R = false := by rw [HR.out, ← HA.out, ← HL.out]; exact HT.out
      subst hres
      go_wp2
      go_ret
      exact ⟨_, rfl, by simp, HB.out⟩
set_option maxRecDepth 100000 in
set_option maxHeartbeats 1600000 in
theorem containsCount_any (v : Value) (l : List Ap) (syms : List Sy) (g : Nat) (ps : Option Addr) (cs : Nat) (w : World) (h : ApsIn w v l) (hg : BoxS w g 27 ps syms.length cs) (hs : SysIn w (.slice ps syms.length cs) syms) (hn : l.any (tbNoSym syms) = false) (hl : l.length ≤ 1000) :
    Calls Tryd.prog 37 #[v, .func (.func 36) #[] #[.pointer (some ⟨g, 0, none⟩)]] w (RBool (l.any (tbBadCount syms)) w) := by
  have Hc := hid (indexCount_any v l syms g ps cs w h hg hs hn hl)
  obtain ⟨pa, ca, rfl, i1, i2, i3, i4⟩ := h
  clear i4 hg hs hn
  generalize l.any (tbBadCount syms) = f at *
  go_enter Tryd.func37, Tryd.ntmps37
  go_wp2_with fail
  refine Hc.out.mono ?_
  rintro e w1 ⟨z, rfl, hz, b1⟩
  go_wp2
  go_ret
  exact ⟨rfl, b1⟩
set_option maxRecDepth 100000 in
set_option maxHeartbeats 3200000 in
theorem fault_any (vs v : Value) (syms : List Sy) (l : List Ap) (w : World) (hs : SysIn w vs syms) (h : ApsIn w v l) (hz : ∀ a ∈ l, ApSz a) (hl : l.length ≤ 1000) (htab : Tb w.heap.size w) :
    Calls Tryd.prog 25 #[vs, v] w (RNum .i64 (tbFault syms l) w) := by
  have hs' := hs
  obtain ⟨ps, cs, rfl, -, -, -, -⟩ := hs'
  obtain ⟨W1, hW⟩ : ∃ W1, W1 = w.alloc (.cells #[.slice ps syms.length cs] 27) := ⟨_, rfl⟩
  have b0 : Below w.heap.size w W1 := by rw [hW]; exact below1 w _
  have hg : BoxS W1 w.heap.size 27 ps syms.length cs := by rw [hW]; exact heap_alloc_new w _
  have H1 := hid (containsNoSym_any v l syms w.heap.size ps cs W1 (h.below b0) hg hl)
  have H2 := hid (fun (w' : World) (hb : Below W1.heap.size W1 w') (hn : l.any (tbNoSym syms) = false) => containsCount_any v l syms w.heap.size ps cs w' (h.below (tbGo hb b0)) (hg.below hb) (hs.below (tbGo hb b0)) hn hl)
  have H3 := hid (fun (w' : World) (hb : Below W1.heap.size W1 w') => Clash_any v l w' (h.below (tbGo hb b0)) hz hl (tab_later htab (tbGo hb b0)))
  have HB := hid b0
  have hmf : ∀ (fn : Fn) (first cap : Array Value) (w : World), (Instr.makeFunc fn first cap).run Tryd.prog w = .ok (.func fn first cap) w := fun _ _ _ _ => rfl
  have HF : Hid (tbFault syms l = if l.any (tbNoSym syms) then 1 else if l.any (tbBadCount syms) then 9 else if (tbClash l).2.2 then 6 else 0) := hid rfl
  obtain ⟨R, hR⟩ : ∃ R, R = tbFault syms l := ⟨_, rfl⟩
  rw [← hR] at HF ⊢
  generalize l.any (tbNoSym syms) = f1 at *
  generalize l.any (tbBadCount syms) = f2 at *
  generalize tbClash l = tc at *
  obtain ⟨c1, c2, c3⟩ := tc
  obtain ⟨p, cap, rfl, -, -, -, -⟩ := h
  generalize syms.length = n at *
  clear hs hz htab b0 hg hR
  go_enter Tryd.func25, Tryd.ntmps25
  go_upto_region 1 with fail
  rw [← hW]
  clear hW
  go_wp2_with fail
  refine H1.out.mono ?_
  rintro e w1 ⟨rfl, b1⟩
  have B1 := hid b1
  clear b1 H1
  cases f1 with
  | true =>
    obtain rfl : R = 1 := by rw [HF.out]; rfl
    go_wp2
    go_ret
    exact ⟨rfl, tbGo B1.out HB.out⟩
  | false =>
  have H2b := hid (H2.out w1 B1.out rfl)
  clear H2
  go_wp2_with fail
  refine H2b.out.mono ?_
  rintro e w2 ⟨rfl, b2⟩
  have B2 := hid (tbGo b2 B1.out)
  clear b2 H2b
  cases f2 with
  | true =>
    obtain rfl : R = 9 := by rw [HF.out]; rfl
    go_wp2
    go_ret
    exact ⟨rfl, tbGo B2.out HB.out⟩
  | false =>
  have H3b := hid (H3.out w2 B2.out)
  clear H3
  go_wp2_with fail
  refine H3b.out.mono ?_
  rintro e w3 ⟨rfl, b3⟩
  have B3 := hid (tbGo b3 B2.out)
  clear b3 H3b
  dsimp only at *
  cases c3 with
  | true =>
    obtain rfl : R = 6 := by rw [HF.out]; rfl
    go_wp2
    go_ret
    exact ⟨rfl, tbGo B3.out HB.out⟩
  | false =>
    obtain rfl : R = 0 := by rw [HF.out]; rfl
    go_wp2
    go_ret
    exact ⟨rfl, tbGo B3.out HB.out⟩
end Go.Proofs.YtlffiomlpkopbaaDoor
/- A region that draws its order, with one operation (an append to a row that was there) that writes into blocks of S: each operation is shown once to give its own fact, which lasts. -/
namespace Go.Proofs.YtlffiomlpkopbaaDoor
open Go.RowKit

/-- a fact of a slot's value that lasts while memory outside S stays -/
structure WFact (S : Nat → Prop) where
  P : Value → World → Prop
  st : ∀ v w w', P v w → Apart S w w' → P v w'
def wEq {S : Nat → Prop} (v0 : Value) : WFact S := ⟨fun v _ => v = v0, fun _ _ _ h _ => h⟩
def wAny {S : Nat → Prop} : WFact S := ⟨fun _ _ => True, fun _ _ _ h _ => h⟩
theorem wpAny_write {P : Program} {ops : Array Oper} {Q : Exit → Act → World → Prop} {a0 : Act} {w0 : World} (n s : Nat) (hsize : ops.size = n + s) (ds : List Tmp) {S : Nat → Prop} (f : Nat → WFact S) (a : Nat) (J : Value → World → Prop) (hJ : ∀ v w w', J v w → Below w.heap.size w w' → J v w')
    (hd : edgesDown .any ops = true) (hsw : storesWait .any ops n = true) (hdn : ds.Nodup) (hlen : ds.length = n) (hds : dstsAre ops n ds = true) (han : a < n)
    (hstep : ∀ i o, i < n → ops[i]? = some o → ∀ vs w, vs.length = n → Apart S w0 w → (i = a ∨ reach .any ops 8 a i = true → Below w0.heap.size w0 w) → (∀ e ∈ o.after, Region.binds .any e = true → (f e.on).P (vs.getD e.on undef) w) →
      ∀ K : Act → World → Prop, Shut (∀ v w', (f i).P v w' → (i ≠ a → Below w.heap.size w w') → (i = a → Apart S w w' ∧ J v w') → K ((putAll a0 ds vs).put o.dst v) w') →
        if Region.wanted o (yielded ops (putAll a0 ds vs).tmps) = true then Oper.wp P o (putAll a0 ds vs) w K Q else K ((putAll a0 ds vs).put o.dst undef) w)
    (hend : ∀ vs w, vs.length = n → Apart S w0 w → (∀ i, i < n → (f i).P (vs.getD i undef) w) → J (vs.getD a undef) w →
      wpAny P .any ops Q s ((List.replicate n true ++ List.replicate s false).toArray) (putAll a0 ds vs) w) :
    ∀ (c : Nat) (L : Array Bool) (vs : List Value) (w : World), (L.toList.take n).count false = c → L.size = n + s → (∀ j, n ≤ j → j < n + s → L.getD j true = false) → Closed .any ops L → vs.length = n → Apart S w0 w →
      (∀ i, i < n → L.getD i false = true → (f i).P (vs.getD i undef) w) → (L.getD a false = false → Below w0.heap.size w0 w) → (L.getD a false = true → J (vs.getD a undef) w) → wpAny P .any ops Q (c + s) L (putAll a0 ds vs) w := by
  intro c
  induction c with
  | zero =>
    intro L vs w hc hs hst hcl hvl hb hf hj0 hj1
    have hall : ∀ i, i < n → L.getD i false = true := fun i hi => by
      have hil : i < L.size := by omega
      cases hb : L[i] with
      | true => simp [Array.getD, hil, hb]
      | false =>
        exfalso
        have hmem : false ∈ L.toList.take n := by
          rw [List.mem_take_iff_getElem]
          exact ⟨i, by simp; omega, by simpa using hb⟩
        have := List.count_pos_iff.2 hmem
        omega
    have hL : L = (List.replicate n true ++ List.replicate s false).toArray := by
      apply Array.ext
      · simp [hs]
      · intro i hi hi2
        by_cases h : i < n
        · have := hall i h
          simp only [Array.getD, hi] at this
          simp [h]
          simpa using this
        · have := hst i (by omega) (by omega)
          simp only [Array.getD, hi] at this
          simp [List.getElem_append, h]
          simpa using this
    rw [Nat.zero_add, hL]
    exact hend vs w hvl hb (fun i hi => hf i hi (hall i hi)) (hj1 (hall a han))
  | succ c ih =>
    intro L vs w hc hs hst hcl hvl hb hf hj0 hj1
    have hnot : ¬ ∀ i, i < n → L.getD i false = true := fun hall => by
      have : (L.toList.take n).count false = 0 := by
        rw [List.count_eq_zero]
        intro hmem
        rw [List.mem_take_iff_getElem] at hmem
        obtain ⟨i, hi, hif⟩ := hmem
        have hi' : i < L.size := by simp at hi; omega
        have := hall i (by simp at hi; omega)
        have h2 : L.getD i false = L[i] := by simp [Array.getD, hi']
        rw [h2] at this
        rw [Array.getElem_toList] at hif
        rw [hif] at this
        cases this
      omega
    rw [show c + 1 + s = (c + s) + 1 by omega]
    refine ⟨fun hr => ?_, fun i hi => ?_⟩
    · exfalso
      apply hnot
      intro i hi
      have := all_listed hd (by rw [hs, hsize]) hr i (by omega)
      have hil : i < L.size := by omega
      simpa [Array.getD, hil] using this
    · obtain ⟨hun, o, ho, hall⟩ := mem_ready.1 hi
      have hio : i < ops.size := (Array.getElem?_eq_some_iff.1 ho).1
      have hil : i < L.size := by omega
      have hin : i < n := by
        rcases Nat.lt_or_ge i n with h | h
        · exact h
        · exfalso
          apply hnot
          intro j hj
          have h1 := List.all_eq_true.1 hsw i (by simpa using hio)
          simp only [Bool.or_eq_true, decide_eq_true_eq] at h1
          rcases h1 with h1 | h1
          · omega
          · exact reach_listed hcl 6 i o j ho hall (List.all_eq_true.1 h1 j (by simpa using hj))
      have hdst : o.dst = ds[i]? := by
        have h1 := List.all_eq_true.1 hds i (by simpa using hin)
        rw [ho] at h1
        simpa using h1
      have hdi : ds[i]? = some (ds[i]'(by omega)) := by simp
      have hia : i = a ∨ reach .any ops 8 a i = true → L.getD a false = false := fun h => by
        rcases h with rfl | h
        · simpa [Array.getD, hil] using hun
        · cases hla : L.getD a false with
          | false => rfl
          | true =>
            exfalso
            have hoa : ops[a]? = some (ops[a]'(by omega)) := by simp
            have := reach_listed hcl 8 a _ i hoa (fun e he hb => hcl a _ hoa hla e he hb) h
            have h2 : L.getD i false = L[i] := by simp [Array.getD, hil]
            rw [h2] at this
            have h3 : L.getD i true = L[i] := by simp [Array.getD, hil]
            rw [h3, this] at hun
            cases hun
      refine wpOp_step ho (fun K hK => hstep i o hin ho vs w hvl hb (fun h => hj0 (hia h)) (fun e he hbd => ?_) K (fun v w' hv hb' hp => ?_))
      · have hl := hall e he hbd
        have hlt : e.on < n := by
          rcases Nat.lt_or_ge e.on n with h | h
          · exact h
          · exfalso
            rcases Nat.lt_or_ge e.on (n + s) with h2 | h2
            · have := hst e.on h h2
              have hl2 : e.on < L.size := by omega
              simp only [Array.getD, hl2] at this hl
              simp at this hl
              rw [this] at hl; cases hl
            · have : ¬ e.on < L.size := by omega
              simp [Array.getD, this] at hl
        exact hf e.on hlt hl
      · apply hK
        rw [hdst, hdi, putAll_set hdn hdi (by omega)]
        have hset : ∀ j, i ≠ j → (L.setIfInBounds i true).getD j false = L.getD j false := fun j h => getD_set_ne false h
        have hap : Apart S w w' := by
          by_cases e : i = a
          · exact (hp e).1
          · exact Apart.of_below (hb' e)
        refine ih (L.setIfInBounds i true) (vs.set i v) w' ?_ (by simpa using hs) ?_ ?_ (by simpa using hvl) (hb.go hap) ?_ ?_ ?_
        · have hf' : (L.toList.take n)[i]'(by simp; omega) = false := by
            simp only [List.getElem_take]
            simpa [Array.getD, hil] using hun
          have := count_false_set (L.toList.take n) i (by simp; omega) hf'
          rw [Array.toList_setIfInBounds, ← List.take_set] at *
          omega
        · intro j hj hj2
          rw [getD_set_ne true (by omega)]
          exact hst j hj hj2
        · intro j o' hjo hjl e he hbd
          by_cases hji : i = j
          · subst hji
            rw [ho] at hjo
            cases hjo
            exact getD_set_true (hall e he hbd)
          · rw [hset j hji] at hjl
            exact getD_set_true (hcl j o' hjo hjl e he hbd)
        · intro j hj hjl
          by_cases hji : i = j
          · subst hji
            rw [getD_set_list_self (by omega)]
            exact hv
          · rw [hset j hji] at hjl
            rw [getD_set_list hji]
            exact (f j).st _ _ _ (hf j hj hjl) hap
        · intro hla
          by_cases hji : i = a
          · subst hji
            exfalso
            have h2 : i < (L.setIfInBounds i true).size := by simpa using hil
            simp [Array.getD, hil] at hla
          · rw [hset a hji] at hla
            have := hb' hji
            exact (hj0 hla).trans (this.mono (hj0 hla).size)
        · intro hla
          by_cases hji : i = a
          · subst hji
            rw [getD_set_list_self (by omega)]
            exact (hp rfl).2
          · rw [hset a hji] at hla
            rw [getD_set_list hji]
            exact hJ _ _ _ (hj1 hla) (hb' hji)

theorem wp_region_write {P : Program} {ops : Array Oper} {Q : Exit → Act → World → Prop} {id : Nat} {a0 : Act} {w0 : World} (n s : Nat) (ds : List Tmp) (vs0 : List Value) {S : Nat → Prop} (f : Nat → WFact S) (a : Nat) (J : Value → World → Prop) (hJ : ∀ v w w', J v w → Below w.heap.size w w' → J v w') (hm : P.follows .mixedOrders = true)
    (hsize : ops.size = n + s) (hd : edgesDown .any ops = true) (hsw : storesWait .any ops n = true) (hdn : ds.Nodup) (hlen : ds.length = n) (hds : dstsAre ops n ds = true) (hv0 : vs0.length = n) (han : a < n)
    (he : a0 = putAll a0 ds vs0)
    (hstep : ∀ i o, i < n → ops[i]? = some o → ∀ vs w, vs.length = n → Apart S w0 w → (i = a ∨ reach .any ops 8 a i = true → Below w0.heap.size w0 w) → (∀ e ∈ o.after, Region.binds .any e = true → (f e.on).P (vs.getD e.on undef) w) →
      ∀ K : Act → World → Prop, Shut (∀ v w', (f i).P v w' → (i ≠ a → Below w.heap.size w w') → (i = a → Apart S w w' ∧ J v w') → K ((putAll a0 ds vs).put o.dst v) w') →
        if Region.wanted o (yielded ops (putAll a0 ds vs).tmps) = true then Oper.wp P o (putAll a0 ds vs) w K Q else K ((putAll a0 ds vs).put o.dst undef) w)
    (hend : ∀ vs w, vs.length = n → Apart S w0 w → (∀ i, i < n → (f i).P (vs.getD i undef) w) → J (vs.getD a undef) w →
      wpAny P .any ops Q s ((List.replicate n true ++ List.replicate s false).toArray) (putAll a0 ds vs) w) : (Code.region id ops true).wp P Q a0 w0 := by
  refine wp_region_any hm ?_
  have := wpAny_write (a0 := a0) (w0 := w0) n s hsize ds f a J hJ hd hsw hdn hlen hds han hstep hend n (Array.replicate ops.size false) vs0 w0.drew
    (by rw [hsize]; simp [List.take_replicate, Nat.min_eq_left (Nat.le_add_right n s)]) (by simp [hsize]) (by intro j hj hj2; simp [Array.getD, hsize, hj2]) (by intro j o _ h; simp [Array.getD] at h) hv0 ((Apart.refl _ _).drew)
    (by intro i _ h; simp [Array.getD] at h) (fun _ => (Below.refl _ _).drew) (by intro h; simp [Array.getD] at h)
  rw [← he, ← hsize] at this
  exact this

end Go.Proofs.YtlffiomlpkopbaaDoor
/- Tables while they are made: what lies in memory, and what a row or a number more turns. -/
namespace Go.Proofs.YtlffiomlpkopbaaDoor
open Go.RowKit Big Go.WideMaps

theorem infoRow16 : (Tryd.prog.info? 65).map (fun i => (i.zero, i.size, i.bytes)) = some (some (.agg #[.slice none 0 0, .bool false, .slice none 0 0]), 3, 56) := by kernel_rfl
theorem infoTab16 : (Tryd.prog.info? 49).map (fun i => (i.zero, i.size, i.bytes)) = some (some (.agg #[.slice none 0 0, .bool false, .slice none 0 0]), 3, 56) := by kernel_rfl
theorem infoInt16 : (Tryd.prog.info? 32).map (fun i => (i.zero, i.size, i.bytes)) = some (some (.agg #[.bool false, .slice none 0 0]), 2, 32) := by kernel_rfl
theorem run_append_f {P : Program} {w : World} (base : Nat) (t ty e : TypeId) (i : TypeInfo) (z : Value) (size bytes : Nat) (ht : P.underlying t = some (.slice e)) (hi : P.info? e = some i) (hz : i.zero = some z)
    (hsize : i.size = size) (hby : i.bytes = bytes) (hzs : z.cells.size = size) (hsz : 0 < size) (hz0 : ∀ n, .int .u64 n ∉ z.cells)
    (v : Value) (n : Nat) (xs : List Value) (hown : RowW w base e size v n xs)
    (a : Addr) (m c : Nat) (news : List Value) (hl : news.length = m * size) (hnews : ∀ j u, news[j]? = some u → w.cell? (a.add j) = some u) (h1 : ∀ u ∈ news, u.oneCell' = true) (hn0 : ∀ n, .int .u64 n ∉ news)
    (h63 : n + m ≤ maxLen) (hbytes : (n + m) * bytes ≤ 140737488355328) (hbase : base ≤ w.heap.size) :
    ∃ v' w', (Builtin.append_ #[t, t] ty #[v, .slice (some a) m c]).run P w = .ok v' w' ∧ RowW w' base e size v' (n + m) (xs ++ news) ∧ w.grownBy w' v.ownBlock ∧ (∀ k, v'.ownBlock = some k → v.ownBlock = some k ∨ w.heap.size ≤ k) := by
  subst hsize
  subst hby
  obtain ⟨hown, hw⟩ := hown
  have hsmall : n + m ≤ 9223372036854775807 := by simp only [maxLen] at h63; omega
  have hlen : (xs ++ news).length = (n + m) * i.size := by rw [List.length_append, hown.1, hl, Nat.add_mul]
  have hx0 : ∀ q, .int .u64 q ∉ xs := by
    intro q hq
    rcases hown.2 with ⟨rfl, rfl⟩ | ⟨g, cap, cur, rfl, hbg, hg, hnc, hcm, hcs, htake⟩
    · have hx : xs = [] := List.eq_nil_of_length_eq_zero (by simpa using hown.1)
      rw [hx] at hq; cases hq
    · obtain ⟨j, hj, hjq⟩ := List.mem_iff_getElem.1 hq
      have hc := hown.cells (g := g) rfl j (.int .u64 q) (by rw [List.getElem?_eq_getElem hj, hjq])
      rw [Go.WideShapes.add_plain] at hc
      exact hw g rfl _ _ hc
  have grown : ∀ (old : Nat), old < n + m → ∀ (row : Option Nat),
      RowW (w.drew.alloc (.cells (xs.toArray ++ news.toArray ++ Builtin.zeroCells z.cells (grownCap w (n + m) old e - (n + m))) e)) base e i.size
        (.slice (some ⟨w.heap.size, 0, none⟩) (n + m) (grownCap w (n + m) old e)) (n + m) (xs ++ news) ∧
      w.grownBy (w.drew.alloc (.cells (xs.toArray ++ news.toArray ++ Builtin.zeroCells z.cells (grownCap w (n + m) old e - (n + m))) e)) row := by
    intro old ho row
    have hge := grownCap_ge w (n + m) old e
    have hcm : grownCap w (n + m) old e ≤ maxLen := grownCap_le_maxLen w (n + m) old e h63
    refine ⟨⟨⟨hlen, .inr ⟨w.heap.size, _, _, rfl, hbase, heap_alloc_new w.drew _, hge, hcm, ?_, ?_⟩⟩, ?_⟩, ⟨rfl, rfl, rfl, by simp, fun k hk _ => heap_alloc_old w.drew _ hk⟩⟩
    · simp only [Array.size_append, List.size_toArray, size_zeroCells, hzs, hown.1, hl, ← Nat.add_mul]
      congr 1
      omega
    · simp only [Array.toList_append, List.append_assoc]
      rw [← List.append_assoc, ← hlen]
      exact List.take_left
    · intro g hg
      obtain rfl : w.heap.size = g := by simpa [Value.ownBlock] using hg
      refine NoWd.cells (heap_alloc_new w.drew _) (fun q hq => ?_)
      rcases Array.mem_append.1 hq with hq | hq
      · rcases Array.mem_append.1 hq with hq | hq
        · exact hx0 q (by simpa using hq)
        · exact hn0 q (by simpa using hq)
      · exact hz0 q (zeroCells_mem _ _ _ hq)
  rcases hown.2 with ⟨rfl, rfl⟩ | ⟨g, cap, cur, rfl, hbg, hg, hnc, hcm, hcs, htake⟩
  · have hx : xs = [] := List.eq_nil_of_length_eq_zero (by simpa using hown.1)
    subst hx
    by_cases hm : m = 0
    · subst hm
      have hn : news = [] := List.eq_nil_of_length_eq_zero (by simpa using hl)
      subst hn
      refine ⟨.slice none 0 0, w, ?_, RowW.nil w base e i.size, ⟨rfl, rfl, rfl, Nat.le_refl _, fun _ _ _ => rfl⟩, fun k hk => by cases hk⟩
      simp [Builtin.append_, run_underlying ht, sizeOf, typeInfo, hi, Builtin.lenOf, Builtin.firstCells, loadCells, loadCellsFrom]
    · have hr := run_append_nil (P := P) w t ty e i z ht hi hz a m c news hl hnews (by omega) (by omega) (by have hb := hbytes; simp only [Nat.zero_add] at hb; omega)
      have hgr := grown 0 (by omega) (Value.ownBlock (.slice none 0 0))
      simp only [Nat.zero_add, List.nil_append, Array.empty_append] at hgr ⊢
      exact ⟨_, _, hr, hgr.1, hgr.2, fun k hk => .inr (by obtain rfl : w.heap.size = k := (by simpa [Value.ownBlock] using hk); exact Nat.le_refl _)⟩
  · by_cases hroom : n + m ≤ cap
    · have hfit : n * i.size + news.length ≤ cur.size := by rw [hl, hcs, ← Nat.add_mul]; exact Nat.mul_le_mul_right _ hroom
      have hr := run_append_room (P := P) w t ty e i ht hi g n cap cur hg a m c news hl hnews h1 hroom hfit
      refine ⟨_, _, hr, ⟨⟨hlen, .inr ⟨g, cap, _, rfl, hbg, setRow_heap w g cur _ e _ hg, hroom, hcm, ?_, ?_⟩⟩, ?_⟩, ⟨rfl, rfl, rfl, by simp, fun k _ hk => setRow_other w g k _ (fun e => hk (by simp [Value.ownBlock, e]))⟩, fun k hk => .inl (by simpa [Value.ownBlock] using hk)⟩
      · simp only [List.size_toArray, List.length_append, List.length_take, List.length_drop, Array.length_toList]
        omega
      · rw [htake, ← hlen]
        exact List.take_left
      · intro g' hg'
        obtain rfl : g = g' := by simpa [Value.ownBlock] using hg'
        have hcur : ∀ q, .int .u64 q ∉ cur.toList := by
          intro q hq
          obtain ⟨j, hj, hjq⟩ := List.mem_iff_getElem.1 hq
          refine hw g rfl j q ?_
          rw [cell_of_row w g j cur e (0, 0) hg]
          simp at hj hjq
          rw [Array.getElem?_eq_getElem hj, hjq]
        refine NoWd.cells (setRow_heap w g cur _ e _ hg) (fun q hq => ?_)
        simp only [List.mem_toArray, List.mem_append] at hq
        rcases hq with hq | hq
        · rcases hq with hq | hq
          · exact hcur q (List.mem_of_mem_take hq)
          · exact hn0 q hq
        · exact hcur q (List.mem_of_mem_drop hq)
    · have holds : ∀ j u, xs[j]? = some u → w.cell? ((⟨g, 0, none⟩ : Addr).add j) = some u := hown.cells (g := g) rfl
      have hr := run_append_grow (P := P) w t ty e i z ht hi hz ⟨g, 0, none⟩ n cap xs hown.1 holds a m c news hl hnews (by omega) (by omega) (growslice_fits (by omega) hbytes)
      have hgr := grown cap (by omega) (Value.ownBlock (.slice (some ⟨g, 0, none⟩) n cap))
      exact ⟨_, _, hr, hgr.1, hgr.2, fun k hk => .inr (by obtain rfl : w.heap.size = k := (by simpa [Value.ownBlock] using hk); exact Nat.le_refl _)⟩
theorem step_append_w {P : Program} {w : World} {o : Oper} {a : Act} {K : Act → World → Prop} {Q : Exit → Act → World → Prop} (s x : Operand) (t : TypeId)
    (ho : o.op = .call { callee := .builtin .append, args := #[s, x], argTypes := #[t, t] })
    (base : Nat) (e : TypeId) (i : TypeInfo) (z : Value) (size bytes : Nat) (ht : P.underlying t = some (.slice e)) (hi : P.info? e = some i) (hz : i.zero = some z)
    (hsize : i.size = size) (hby : i.bytes = bytes) (hzs : z.cells.size = size) (hsz : 0 < size) (hz0 : ∀ n, .int .u64 n ∉ z.cells)
    (v : Value) (n : Nat) (xs : List Value) (hs : a.eval s = v) (hown : RowW w base e size v n xs)
    (ad : Addr) (m c : Nat) (news : List Value) (hx : a.eval x = .slice (some ad) m c) (hl : news.length = m * size) (hnews : ∀ j u, news[j]? = some u → w.cell? (ad.add j) = some u) (h1 : ∀ u ∈ news, u.oneCell' = true) (hn0 : ∀ n, .int .u64 n ∉ news)
    (h63 : n + m ≤ maxLen) (hbytes : (n + m) * bytes ≤ 140737488355328) (hbase : base ≤ w.heap.size)
    (h : ∀ v' w', RowW w' base e size v' (n + m) (xs ++ news) → w.grownBy w' v.ownBlock → (∀ k, v'.ownBlock = some k → v.ownBlock = some k ∨ w.heap.size ≤ k) → K (a.put o.dst v') w') : Oper.wp P o a w K Q := by
  obtain ⟨v', w', hr, h2, h3, h4⟩ := run_append_f (P := P) base t o.type e i z size bytes ht hi hz hsize hby hzs hsz hz0 v n xs hown ad m c news hl hnews h1 hn0 h63 hbytes hbase
  unfold Oper.wp
  simp [execOp, ho, resolve, invoke, builtin, hs, hx, hr, Result.andThen]
  exact h v' w' h2 h3 h4
theorem apart_set (w : World) (g j : Nat) (u : Value) : Apart (fun k => k = g) w (w.setCell ⟨g, j, none⟩ u) := (Apart.refl (fun k => k = g) w).setCell rfl u
/-- rows of a table, in a row of one's own that holds no word; their numbers in blocks of A -/
def RowsW (A : Nat → Prop) (B : Nat) (w : World) (v : Value) (l : List (List Int × Int)) : Prop :=
  ∃ css : List (List Value), css.length = l.length ∧ RowW w B 65 3 v l.length css.flatten ∧ (∀ c ∈ css, c.length = 3) ∧ ∀ i (h : i < l.length) (h' : i < css.length), RwP A w css[i] l[i]
theorem RowsW.nil (A : Nat → Prop) (B : Nat) (w : World) : RowsW A B w (.slice none 0 0) [] := ⟨[], rfl, RowW.nil w B _ _, nofun, fun i h => absurd h (by simp)⟩
theorem RowsW.shape {A : Nat → Prop} {B : Nat} {w : World} {v : Value} {l : List (List Int × Int)} (h : RowsW A B w v l) : ∃ p c, v = .slice p l.length c := by
  obtain ⟨css, h1, h2, h3, h4⟩ := h
  exact ownsRow_shape h2.1
theorem RowsW.base {A : Nat → Prop} {B : Nat} {w : World} {v : Value} {l : List (List Int × Int)} (h : RowsW A B w v l) : ∀ g, v.ownBlock = some g → B ≤ g ∧ g < w.heap.size ∧ NoWd w g := by
  obtain ⟨css, h1, h2, h3, h4⟩ := h
  exact fun g hg => ⟨(World.ownsRow.lt h2.1 g hg).1, (World.ownsRow.lt h2.1 g hg).2, h2.2 g hg⟩
theorem RwP.mono {P P' : Nat → Prop} {w : World} {c : List Value} {r : List Int × Int} (h : RwP P w c r) (hP : ∀ b, b < w.heap.size → P b → P' b) : RwP P' w c r := by
  obtain ⟨a, n, s, e, h1, h2⟩ := h
  exact ⟨a, n, s, e, h1.mono hP (fun _ _ h => h), h2⟩
theorem RowsW.apart {A A' S : Nat → Prop} {B : Nat} {w w' : World} {v : Value} {l : List (List Int × Int)} (h : RowsW A B w v l) (ha : Apart S w w') (hS : ∀ b, S b → NoWd w b) (hA : ∀ b, A b → ¬ S b) (hAA : ∀ b, A b → A' b) (hv : ∀ g, v.ownBlock = some g → ¬ S g) : RowsW A' B w' v l := by
  obtain ⟨css, h1, h2, h3, h4⟩ := h
  exact ⟨css, h1, h2.stays (fun g hg => ha.block g (World.ownsRow.lt h2.1 g hg).2 (hv g hg)), h3, fun i hi hi' => ((h4 i hi hi').apart ha hA hS).mono (fun b _ hb => hAA b hb)⟩
theorem RowsW.push {A : Nat → Prop} {B : Nat} {w : World} {v : Value} {l : List (List Int × Int)} (h : RowsW A B w v l) : ∃ xs, RowW w B 65 3 v l.length xs ∧
    ∀ (A' S : Nat → Prop) w' v' c r, RowW w' B 65 3 v' (l.length + 1) (xs ++ c) → Apart S w w' → (∀ b, S b → NoWd w b) → (∀ b, A b → ¬ S b) → (∀ b, A b → A' b) → c.length = 3 → RwP A' w' c r → RowsW A' B w' v' (l ++ [r]) := by
  obtain ⟨css, h1, h2, h3, h4⟩ := h
  refine ⟨css.flatten, h2, fun A' S w' v' c r hr ha hS hA hAA hc hx => ?_⟩
  refine ⟨css ++ [c], by simp [h1], by simpa using hr, fun d hd => ?_, fun i hi hi' => ?_⟩
  · rcases List.mem_append.1 hd with hd | hd
    · exact h3 d hd
    · rw [List.mem_singleton.1 hd]; exact hc
  · by_cases hlt : i < l.length
    · rw [List.getElem_append_left hlt, List.getElem_append_left (by omega)]
      exact ((h4 i hlt (by omega)).apart ha hA hS).mono (fun b _ hb => hAA b hb)
    · have e1 : i = l.length := by simp at hi; omega
      subst e1
      rw [List.getElem_append_right (Nat.le_refl _), List.getElem_append_right (by omega)]
      simpa [h1] using hx
theorem RowsW.in {A P : Nat → Prop} {B : Nat} {w : World} {v : Value} {l : List (List Int × Int)} (h : RowsW A B w v l) (hA : ∀ b, A b → P b) (hv : ∀ g, v.ownBlock = some g → P g) : LsP 3 P (RwP P) w v l := by
  obtain ⟨css, h1, h2, h3, h4⟩ := h
  have hr := h2.1
  rcases id hr.2 with ⟨rfl, h0⟩ | ⟨g, cap, cur, rfl, hb, hh, k1, k2, k3, k4⟩
  · have : l = [] := List.eq_nil_of_length_eq_zero h0
    subst this
    exact ⟨none, 0, rfl, by simp, by simp [maxLen], fun _ => rfl, fun h => absurd h (by simp)⟩
  · refine ⟨_, cap, rfl, k1, k2, by simp, fun _ => ⟨g, 0, rfl, (Array.getElem?_eq_some_iff.1 hh).1, hv g rfl, fun i hi => ⟨css[i]'(by omega), fun j u hj => ?_, (h4 i hi (by omega)).mono (fun b _ hb => hA b hb)⟩⟩⟩
    have h5 := flatten_at h3 i (by omega) j u hj
    have := hr.cells (g := g) rfl _ _ h5
    rw [Go.WideShapes.add_plain] at this
    rw [← this]
    congr 2
    omega
/-- tables while they are made: their array lies in block g, the rows of table s in a row V s of one's own -/
structure TbSt (w : World) (B g S : Nat) (A : Nat → Prop) (F : Nat → Tb5) (cs : Array Value) (V : Nat → Value) : Prop where
  block : w.heap[g]? = some (.cells cs 49 (0, 0))
  size : cs.size = S * 3
  noW : ∀ n, .int .u64 n ∉ cs
  base : B ≤ g
  tabs : ∀ s, s < S → ∃ n q m d, cs[s * 3]? = some (V s) ∧ cs[s * 3 + 1]? = some (.bool n) ∧ cs[s * 3 + 2]? = some (.slice q m d) ∧ RawAt w (.agg #[.bool n, .slice q m d]) (F s).els ∧ RowsW A B w (V s) (F s).rows
  apart : ∀ s t k, s < S → t < S → (V s).ownBlock = some k → (V t).ownBlock = some k → s = t
  offG : ∀ s k, s < S → (V s).ownBlock = some k → k ≠ g ∧ ¬ A k
  notA : ¬ A g
  inA : ∀ b, A b → b < w.heap.size
theorem TbSt.noWd {w : World} {B g S : Nat} {A : Nat → Prop} {F : Nat → Tb5} {cs : Array Value} {V : Nat → Value} (h : TbSt w B g S A F cs V) : NoWd w g := NoWd.cells h.block h.noW
theorem TbSt.keep {w w' : World} {B g S : Nat} {A T : Nat → Prop} {F : Nat → Tb5} {cs : Array Value} {V : Nat → Value} (h : TbSt w B g S A F cs V) (ha : Apart T w w') (hT : ∀ b, T b → NoWd w b) (hA : ∀ b, A b → ¬ T b) (hg : ¬ T g) (hV : ∀ s k, s < S → (V s).ownBlock = some k → ¬ T k) : TbSt w' B g S A F cs V :=
  ⟨(ha.block g (Array.getElem?_eq_some_iff.1 h.block).1 hg).trans h.block, h.size, h.noW, h.base, fun s hs => by
    obtain ⟨n, q, m, d, h1, h2, h3, h4, h5⟩ := h.tabs s hs
    exact ⟨n, q, m, d, h1, h2, h3, h4.quiet ha hT, h5.apart ha hT hA (fun _ h => h) (fun k hk => hV s k hs hk)⟩, h.apart, h.offG, h.notA, fun b hb => Nat.lt_of_lt_of_le (h.inA b hb) ha.size⟩
theorem TbSt.below {w w' : World} {B g S : Nat} {A : Nat → Prop} {F : Nat → Tb5} {cs : Array Value} {V : Nat → Value} (h : TbSt w B g S A F cs V) (hb : Below w.heap.size w w') : TbSt w' B g S A F cs V :=
  h.keep (T := fun _ => False) (Apart.of_below hb) (fun _ h => h.elim) (fun _ _ h => h) (fun h => h) (fun _ _ _ _ h => h)
/-- a table's number behind a store -/
theorem TbSt.els {w w' : World} {B g S : Nat} {A : Nat → Prop} {F : Nat → Tb5} {cs : Array Value} {V : Nat → Value} (h : TbSt w B g S A F cs V) (s : Nat) (hs : s < S) (n : Bool) (q : Option Addr) (m d : Nat) (z : Int)
    (hb : w'.heap[g]? = some (.cells ((cs.setIfInBounds (s * 3 + 1) (.bool n)).setIfInBounds (s * 3 + 2) (.slice q m d)) 49 (0, 0))) (ha : Apart (fun k => k = g) w w') (hr : RawAt w' (.agg #[.bool n, .slice q m d]) z) :
    TbSt w' B g S A (fun t => if t = s then ⟨(F s).rows, z⟩ else F t) ((cs.setIfInBounds (s * 3 + 1) (.bool n)).setIfInBounds (s * 3 + 2) (.slice q m d)) V := by
  have hT : ∀ b, b = g → NoWd w b := fun b e => e ▸ h.noWd
  refine ⟨hb, by simp [h.size], fun k hk => ?_, h.base, fun t ht => ?_, h.apart, h.offG, h.notA, fun b hb => Nat.lt_of_lt_of_le (h.inA b hb) ha.size⟩
  · rcases Array.mem_or_eq_of_mem_setIfInBounds hk with hk | hk
    · rcases Array.mem_or_eq_of_mem_setIfInBounds hk with hk | hk
      · exact h.noW k hk
      · cases hk
    · cases hk
  · obtain ⟨n', q', m', d', h1, h2, h3, h4, h5⟩ := h.tabs t ht
    have hrows := h5.apart (A' := A) ha hT (fun b hb e => h.notA (e ▸ hb)) (fun _ h => h) (fun k hk e => (h.offG t k ht hk).1 e)
    by_cases e : t = s
    · subst e
      refine ⟨n, q, m, d, ?_, ?_, ?_, by simpa using hr, by simpa using hrows⟩
      · rw [Array.getElem?_setIfInBounds_ne (by omega), Array.getElem?_setIfInBounds_ne (by omega)]; exact h1
      · rw [Array.getElem?_setIfInBounds_ne (by omega), Array.getElem?_setIfInBounds_self_of_lt (by rw [h.size]; omega)]
      · rw [Array.getElem?_setIfInBounds_self_of_lt (by simp [h.size]; omega)]
    · refine ⟨n', q', m', d', ?_, ?_, ?_, by rw [if_neg e]; exact h4.quiet ha hT, by rw [if_neg e]; exact hrows⟩
      · rw [Array.getElem?_setIfInBounds_ne (by omega), Array.getElem?_setIfInBounds_ne (by omega)]; exact h1
      · rw [Array.getElem?_setIfInBounds_ne (by omega), Array.getElem?_setIfInBounds_ne (by omega)]; exact h2
      · rw [Array.getElem?_setIfInBounds_ne (by omega), Array.getElem?_setIfInBounds_ne (by omega)]; exact h3
/-- a table's rows behind an append and a store -/
theorem TbSt.row {w w' : World} {B g S : Nat} {A A' : Nat → Prop} {F : Nat → Tb5} {cs : Array Value} {V : Nat → Value} (h : TbSt w B g S A F cs V) (s : Nat) (hs : s < S) (v' : Value) (r : List Int × Int)
    (hb : w'.heap[g]? = some (.cells (cs.setIfInBounds (s * 3) v') 49 (0, 0))) (ha : Apart (fun k => k = g ∨ (V s).ownBlock = some k) w w') (hr : RowsW A' B w' v' ((F s).rows ++ [r]))
    (hv : ∀ k, v'.ownBlock = some k → (V s).ownBlock = some k ∨ w.heap.size ≤ k) (hvn : ∀ k, v'.ownBlock = some k → ¬ A' k) (hn : ∀ n, v' ≠ .int .u64 n) (hAA : ∀ b, A b → A' b) (hA' : ∀ b, A' b → A b ∨ (w.heap.size ≤ b ∧ b < w'.heap.size)) :
    TbSt w' B g S A' (fun t => if t = s then ⟨(F s).rows ++ [r], (F s).els⟩ else F t) (cs.setIfInBounds (s * 3) v') (fun t => if t = s then v' else V t) := by
  have glt : g < w.heap.size := (Array.getElem?_eq_some_iff.1 h.block).1
  obtain ⟨n0, q0, m0, d0, a1, a2, a3, a4, a5⟩ := h.tabs s hs
  have hT : ∀ b, (b = g ∨ (V s).ownBlock = some b) → NoWd w b := fun b e => by
    rcases e with e | e
    · exact e ▸ h.noWd
    · exact (a5.base b e).2.2
  refine ⟨hb, by simp [h.size], fun k hk => ?_, h.base, fun t ht => ?_, fun t u k ht hu h1 h2 => ?_, fun t k ht hk => ?_, fun hg => ?_, fun b hb => ?_⟩
  · rcases Array.mem_or_eq_of_mem_setIfInBounds hk with hk | hk
    · exact h.noW k hk
    · exact hn k hk.symm
  · obtain ⟨n', q', m', d', h1, h2, h3, h4, h5⟩ := h.tabs t ht
    have z1 : s * 3 < cs.size := by rw [h.size]; omega
    by_cases e : t = s
    · subst e
      refine ⟨n', q', m', d', ?_, ?_, ?_, by simpa using h4.quiet ha hT, by simpa using hr⟩
      · rw [Array.getElem?_setIfInBounds_self_of_lt z1]; simp
      · rw [Array.getElem?_setIfInBounds_ne (by omega)]; exact h2
      · rw [Array.getElem?_setIfInBounds_ne (by omega)]; exact h3
    · refine ⟨n', q', m', d', ?_, ?_, ?_, by rw [if_neg e]; exact h4.quiet ha hT, ?_⟩
      · rw [Array.getElem?_setIfInBounds_ne (by omega), if_neg e]; exact h1
      · rw [Array.getElem?_setIfInBounds_ne (by omega)]; exact h2
      · rw [Array.getElem?_setIfInBounds_ne (by omega)]; exact h3
      · rw [if_neg e, if_neg e]
        refine h5.apart ha hT (fun b hb e2 => ?_) hAA (fun k hk e2 => ?_)
        · rcases e2 with e2 | e2
          · exact h.notA (e2 ▸ hb)
          · exact (h.offG s b hs e2).2 hb
        · rcases e2 with e2 | e2
          · exact (h.offG t k ht hk).1 e2
          · exact e (h.apart t s k ht hs hk e2)
  · have old : ∀ t, t < S → ∀ k, (V t).ownBlock = some k → k < w.heap.size := fun t ht k hk => by
      obtain ⟨_, _, _, _, _, _, _, _, h5⟩ := h.tabs t ht
      exact (h5.base k hk).2.1
    have key : ∀ t, t < S → t ≠ s → ∀ k, (V t).ownBlock = some k → v'.ownBlock = some k → False := fun t ht e k hk hk2 => by
      rcases hv k hk2 with h6 | h6
      · exact e (h.apart t s k ht hs hk h6)
      · have := old t ht k hk; omega
    by_cases e1 : t = s <;> by_cases e2 : u = s
    · rw [e1, e2]
    · rw [if_pos e1] at h1; rw [if_neg e2] at h2; exact (key u hu e2 k h2 h1).elim
    · rw [if_neg e1] at h1; rw [if_pos e2] at h2; exact (key t ht e1 k h1 h2).elim
    · rw [if_neg e1] at h1; rw [if_neg e2] at h2; exact h.apart t u k ht hu h1 h2
  · by_cases e : t = s
    · rw [if_pos e] at hk
      refine ⟨?_, hvn k hk⟩
      rcases hv k hk with h6 | h6
      · exact (h.offG s k hs h6).1
      · omega
    · rw [if_neg e] at hk
      obtain ⟨h1, h2⟩ := h.offG t k ht hk
      refine ⟨h1, fun h3 => ?_⟩
      rcases hA' k h3 with h4 | h4
      · exact h2 h4
      · obtain ⟨_, _, _, _, _, _, _, _, h5⟩ := h.tabs t ht
        have := (h5.base k hk).2.1
        omega
  · rcases hA' g hg with h1 | h1
    · exact h.notA h1
    · omega
  · rcases hA' b hb with h1 | h1
    · exact Nat.lt_of_lt_of_le (h.inA b h1) ha.size
    · exact h1.2
/-- as they read -/
theorem TbSt.in {w : World} {B g S : Nat} {A P : Nat → Prop} {F : Nat → Tb5} {cs : Array Value} {V : Nat → Value} (h : TbSt w B g S A F cs V) (hA : ∀ b, A b → P b) (hB : ∀ b, B ≤ b → P b) (hS : S ≤ maxLen) : TbsP P w (.slice (some ⟨g, 0, none⟩) S S) ((List.range S).map F) := by
  refine ⟨some ⟨g, 0, none⟩, S, by simp, by simp, hS, by simp, fun _ => ⟨g, 0, rfl, (Array.getElem?_eq_some_iff.1 h.block).1, hB g h.base, fun i hi => ?_⟩⟩
  have hi : i < S := by simpa using hi
  obtain ⟨n, q, m, d, h1, h2, h3, h4, h5⟩ := h.tabs i hi
  refine ⟨[V i, .bool n, .slice q m d], fun j u hj => ?_, ⟨V i, n, .slice q m d, rfl, ?_, ?_⟩⟩
  · rw [cell_of_row w g _ cs _ (0, 0) h.block, Nat.zero_add]
    rcases j with _ | _ | _ | j
    · simp at hj; subst hj; exact h1
    · simp at hj; subst hj; exact h2
    · simp at hj; subst hj; exact h3
    · simp at hj
  · simpa using h5.in hA (fun k hk => hB k (h5.base k hk).1)
  · simpa using h4
end Go.Proofs.YtlffiomlpkopbaaDoor
/- tables.put: what a symbol tells, written in its table. -/
namespace Go.Proofs.YtlffiomlpkopbaaDoor
open Go.RowKit Big Go.WideMaps

theorem RowW.below {w w' : World} {B : Nat} {e : TypeId} {k : Nat} {v : Value} {n : Nat} {xs : List Value} (h : RowW w B e k v n xs) (hb : Below w.heap.size w w') : RowW w' B e k v n xs := h.stays (fun g hg => hb.block g (World.ownsRow.lt h.1 g hg).2)
/-- numbers in a row of one's own that holds no word -/
def NumsW (B : Nat) (w : World) (v : Value) (l : List Int) : Prop :=
  ∃ css : List (List Value), css.length = l.length ∧ RowW w B 32 2 v l.length css.flatten ∧ (∀ c ∈ css, c.length = 2) ∧ ∀ i (h : i < l.length) (h' : i < css.length), NmQ w css[i] l[i]
theorem NumsW.nil (B : Nat) (w : World) : NumsW B w (.slice none 0 0) [] := ⟨[], rfl, RowW.nil w B _ _, nofun, fun i h => absurd h (by simp)⟩
theorem NumsW.shape {B : Nat} {w : World} {v : Value} {l : List Int} (h : NumsW B w v l) : ∃ p c, v = .slice p l.length c := by
  obtain ⟨css, h1, h2, h3, h4⟩ := h
  exact ownsRow_shape h2.1
theorem NumsW.base {B : Nat} {w : World} {v : Value} {l : List Int} (h : NumsW B w v l) : ∀ g, v.ownBlock = some g → B ≤ g ∧ g < w.heap.size ∧ NoWd w g := by
  obtain ⟨css, h1, h2, h3, h4⟩ := h
  exact fun g hg => ⟨(World.ownsRow.lt h2.1 g hg).1, (World.ownsRow.lt h2.1 g hg).2, h2.2 g hg⟩
theorem NumsW.apart {S : Nat → Prop} {B : Nat} {w w' : World} {v : Value} {l : List Int} (h : NumsW B w v l) (ha : Apart S w w') (hS : ∀ b, S b → NoWd w b) (hv : ∀ g, v.ownBlock = some g → ¬ S g) : NumsW B w' v l := by
  obtain ⟨css, h1, h2, h3, h4⟩ := h
  exact ⟨css, h1, h2.stays (fun g hg => ha.block g (World.ownsRow.lt h2.1 g hg).2 (hv g hg)), h3, fun i hi hi' => (h4 i hi hi').quiet ha hS⟩
theorem NumsW.below {B : Nat} {w w' : World} {v : Value} {l : List Int} (h : NumsW B w v l) (hb : Below w.heap.size w w') : NumsW B w' v l := h.apart (S := fun _ => False) (Apart.of_below hb) (fun _ h => h.elim) (fun _ _ h => h)
theorem NumsW.push {B : Nat} {w : World} {v : Value} {l : List Int} (h : NumsW B w v l) : ∃ xs, RowW w B 32 2 v l.length xs ∧
    ∀ (S : Nat → Prop) w' v' c z, RowW w' B 32 2 v' (l.length + 1) (xs ++ c) → Apart S w w' → (∀ b, S b → NoWd w b) → c.length = 2 → NmQ w' c z → NumsW B w' v' (l ++ [z]) := by
  obtain ⟨css, h1, h2, h3, h4⟩ := h
  refine ⟨css.flatten, h2, fun S w' v' c z hr ha hS hc hx => ?_⟩
  refine ⟨css ++ [c], by simp [h1], by simpa using hr, fun d hd => ?_, fun i hi hi' => ?_⟩
  · rcases List.mem_append.1 hd with hd | hd
    · exact h3 d hd
    · rw [List.mem_singleton.1 hd]; exact hc
  · by_cases hlt : i < l.length
    · rw [List.getElem_append_left hlt, List.getElem_append_left (by omega)]
      exact (h4 i hlt (by omega)).quiet ha hS
    · have e1 : i = l.length := by simp at hi; omega
      subst e1
      rw [List.getElem_append_right (Nat.le_refl _), List.getElem_append_right (by omega)]
      simpa [h1] using hx
theorem NumsW.in {P : Nat → Prop} {B : Nat} {w : World} {v : Value} {l : List Int} (h : NumsW B w v l) (hv : ∀ g, v.ownBlock = some g → P g) : LsP 2 P NmQ w v l := by
  obtain ⟨css, h1, h2, h3, h4⟩ := h
  have hr := h2.1
  rcases id hr.2 with ⟨rfl, h0⟩ | ⟨g, cap, cur, rfl, hb, hh, k1, k2, k3, k4⟩
  · have : l = [] := List.eq_nil_of_length_eq_zero h0
    subst this
    exact ⟨none, 0, rfl, by simp, by simp [maxLen], fun _ => rfl, fun h => absurd h (by simp)⟩
  · refine ⟨_, cap, rfl, k1, k2, by simp, fun _ => ⟨g, 0, rfl, (Array.getElem?_eq_some_iff.1 hh).1, hv g rfl, fun i hi => ⟨css[i]'(by omega), fun j u hj => ?_, h4 i hi (by omega)⟩⟩⟩
    have h5 := flatten_at h3 i (by omega) j u hj
    have := hr.cells (g := g) rfl _ _ h5
    rw [Go.WideShapes.add_plain] at this
    rw [← this]
    congr 2
    omega
/-- a number whose words lie in a row of its own, out of S -/
def wIo {S : Nat → Prop} (z : Int) : WFact S := ⟨fun v w => ∃ p n c, v = .agg #[.bool (decide (z < 0)), .slice p n c] ∧ Own w 0 68 .u64 (.slice p n c) (dig W z.natAbs) ∧ ∀ k, (Value.slice p n c).ownBlock = some k → ¬ S k,
  fun _ _ _ ⟨p, n, c, h1, h2, h3⟩ ha => ⟨p, n, c, h1, row_stays h2 (fun k hk => ha.block k (World.ownsRow.lt h2 k hk).2 (h3 k hk)), h3⟩⟩
def wIr {S : Nat → Prop} (z : Int) : WFact S := ⟨fun v w => ∃ gg p n c, v = .slice (some ⟨gg, 0, none⟩) 1 1 ∧ w.heap[gg]? = some (.cells #[.bool (decide (z < 0)), .slice p n c] 32 (0, 0)) ∧ ¬ S gg ∧ Own w 0 68 .u64 (.slice p n c) (dig W z.natAbs) ∧ ∀ k, (Value.slice p n c).ownBlock = some k → ¬ S k,
  fun _ _ _ ⟨gg, p, n, c, h1, h2, h3, h4, h5⟩ ha => ⟨gg, p, n, c, h1, (ha.block gg (Array.getElem?_eq_some_iff.1 h2).1 h3).trans h2, h3, row_stays h4 (fun k hk => ha.block k (World.ownsRow.lt h4 k hk).2 (h5 k hk)), h5⟩⟩
def wRw {S : Nat → Prop} (c : List Value) (t : TypeId) : WFact S := ⟨fun v w => ∃ gg, v = .slice (some ⟨gg, 0, none⟩) 1 1 ∧ w.heap[gg]? = some (.cells c.toArray t (0, 0)) ∧ ¬ S gg,
  fun _ _ _ ⟨gg, h1, h2, h3⟩ hb => ⟨gg, h1, (hb.block gg (Array.getElem?_eq_some_iff.1 h2).1 h3).trans h2, h3⟩⟩
theorem cellsAt {w : World} {g : Nat} {t : TypeId} {c : List Value} (h : w.heap[g]? = some (.cells c.toArray t (0, 0))) : ∀ j u, c[j]? = some u → w.cell? ((⟨g, 0, none⟩ : Addr).add j) = some u := by
  intro j u hj
  rw [Go.WideShapes.add_plain, cell_of_row w g _ _ t (0, 0) h, Nat.zero_add]
  simpa using hj
theorem Own.num {w : World} {z : Int} {p : Option Addr} {n c : Nat} {B : Nat} (h : Own w B 68 .u64 (.slice p n c) (dig W z.natAbs)) : IntAt w (.agg #[.bool (decide (z < 0)), .slice p n c]) z := ⟨_, rfl, h.at⟩
theorem IntAt.rawB {w : World} {v : Value} {z : Int} (h : IntAt w v z) (hs : sz W z.natAbs ≤ 6) : RawAt w v z := h.rawL (Nat.le_trans hs (by decide))
theorem TbSt.more {w : World} {B g S : Nat} {A A' : Nat → Prop} {F : Nat → Tb5} {cs : Array Value} {V : Nat → Value} (h : TbSt w B g S A F cs V) (hAA : ∀ b, A b → A' b) (h1 : ∀ s k, s < S → (V s).ownBlock = some k → ¬ A' k) (h2 : ¬ A' g) (h3 : ∀ b, A' b → b < w.heap.size) : TbSt w B g S A' F cs V :=
  ⟨h.block, h.size, h.noW, h.base, fun s hs => by
    obtain ⟨n, q, m, d, k1, k2, k3, k4, k5⟩ := h.tabs s hs
    exact ⟨n, q, m, d, k1, k2, k3, k4, k5.apart (S := fun _ => False) (Apart.refl _ _) (fun _ h => h.elim) (fun _ _ h => h) hAA (fun _ _ h => h)⟩, h.apart, fun s k hs hk => ⟨(h.offG s k hs hk).1, h1 s k hs hk⟩, h2, h3⟩
/-- what put makes of a table -/
def tbPut (t : Tb5) (a : Ap) : Tb5 := if a.args = [] then ⟨t.rows, a.val⟩ else ⟨t.rows ++ [(a.args, a.val)], t.els⟩

set_option maxRecDepth 100000 in
set_option maxHeartbeats 12800000 in
theorem put_any (g s B S : Nat) (A : Nat → Prop) (F : Nat → Tb5) (cs : Array Value) (V : Nat → Value) (v : Value) (a : Ap) (w : World) (h : TbSt w B g S A F cs V) (hs : s < S) (ha : ApV w v a) (hz : ApSz a) (hBw : B ≤ w.heap.size) (hR : (F s).rows.length ≤ 100000) :
    Calls Tryd.prog 26 #[.pointer (some ⟨g, s * 3, none⟩), v] w fun e w' => e = .returned (.tuple #[]) ∧ ∃ A' cs' V', TbSt w' B g S A' (fun t => if t = s then tbPut (F s) a else F t) cs' V' ∧ Apart (fun k => k = g ∨ (V s).ownBlock = some k) w w' ∧
      (∀ b, A' b → A b ∨ w.heap.size ≤ b) ∧ (∀ t k, t < S → (V' t).ownBlock = some k → (V t).ownBlock = some k ∨ w.heap.size ≤ k) := by
  obtain ⟨c, rfl, pa, ca, bn, sv, rfl, hn, hr, hw⟩ := ha
  obtain ⟨_, qm, nm, cm, e⟩ := hr.shp
  obtain rfl : sv = .slice qm nm cm := by injection e with e; simp at e; exact e.2
  clear e
  obtain ⟨n0, q0, m0, d0, c0, c1, c2, hels, hrows⟩ := h.tabs s hs
  have glt : g < w.heap.size := (Array.getElem?_eq_some_iff.1 h.block).1
  have hcl : s * 3 + 2 < cs.size := by rw [h.size]; omega
  obtain ⟨W1, hW⟩ : ∃ W1, W1 = w.alloc (.cells #[.int .i64 a.sym, .slice pa a.args.length ca, .bool bn, .slice qm nm cm] 34) := ⟨_, rfl⟩
  have b0 : Below w.heap.size w W1 := by rw [hW]; exact below1 w _
  have e0 : W1.heap[w.heap.size]? = some (.cells #[.int .i64 a.sym, .slice pa a.args.length ca, .bool bn, .slice qm nm cm] 34 (0, 0)) := by rw [hW]; exact heap_alloc_new w _
  have HNm := hid (Norm_any _ a.val W1 (hr.below b0))
  obtain ⟨y0, y1, y2, y3⟩ := cells4 e0
  have HSz := hid hz; have HN := hid hn; have HT := hid h; have HRows := hid hrows; have E0 := hid e0; have HB0 := hid b0
  have hz1 : w.heap.size < W1.heap.size := by rw [hW, size_alloc]; omega
  have C0 := hid c0; have C1 := hid c1; have C2 := hid c2
  obtain ⟨L, hL⟩ : ∃ L, L = a.args.length := ⟨_, rfl⟩
  have HL := hid hL
  rw [← hL] at hW y1 E0 HN
  have hL8 : L ≤ 8 := by rw [hL]; exact hz.1
  obtain ⟨RL, hRL⟩ : ∃ RL, RL = (F s).rows.length := ⟨_, rfl⟩
  have HRL := hid hRL
  have hRL2 : RL ≤ 100000 := by rw [hRL]; exact hR
  have hmax : ca ≤ 2 ^ 63 - 1 ∧ L ≤ ca := by obtain ⟨-, i1, i2, -, -⟩ := hn.cells; unfold maxLen at i2; exact ⟨i2, by rw [hL]; exact i1⟩
  show Calls Tryd.prog 26 #[.pointer (some ⟨g, s * 3, none⟩), .agg #[.int .i64 a.sym, .slice pa a.args.length ca, .bool bn, .slice qm nm cm]] w _
  rw [← hL]
  clear hn hr hw b0 e0 h hels hrows hz hL hRL hR c0 c1 c2
  go_enter Tryd.func26, Tryd.ntmps26
  go_upto_region 1 with fail
  rw [← hW]
  clear hW
  go_wp2_with fail
  refine HNm.out.mono ?_
  rintro e w2 ⟨v4, rfl, i4, b2⟩
  obtain ⟨p4, n4, c4, rfl, i4⟩ := i4.shape
  have HB2 := hid (tbGo b2 HB0.out)
  have hz2 := b2.size
  clear HNm y0 y2 y3
  obtain ⟨W3, hW3⟩ : ∃ W3, W3 = w2.alloc (.cells #[.bool (decide (a.val < 0)), .slice p4 n4 c4] 32) := ⟨_, rfl⟩
  have b3 : Below w2.heap.size w2 W3 := by rw [hW3]; exact below1 w2 _
  have e3 : W3.heap[w2.heap.size]? = some (.cells #[.bool (decide (a.val < 0)), .slice p4 n4 c4] 32 (0, 0)) := by rw [hW3]; exact heap_alloc_new w2 _
  have HB3 := hid (tbGo b3 HB2.out)
  have I3 := hid (i4.below b3)
  have hz3 : w2.heap.size < W3.heap.size := by rw [hW3, size_alloc]; omega
  have y1' := ((tbGo b3 b2).cell (p := ⟨w.heap.size, 1, none⟩) (by show w.heap.size < _; omega)).trans y1
  obtain ⟨t0, t1, -, -⟩ := two_cells e3
  have E3 := hid e3
  clear i4 b2 b3 e3 y1
  go_upto_region 2 with fail
  rw [← hW3]
  clear hW3
  by_cases hL0 : L = 0
  · have hd : ((L : Int) == 0) = true := by simp; omega
    have hnil : a.args = [] := List.eq_nil_of_length_eq_zero (by rw [← HL.out]; exact hL0)
    have hT3 := HT.out.below HB3.out
    have hbk := hT3.block
    have x1 : W3.cell? ⟨g, s * 3 + 1, none⟩ = some (.bool n0) := by rw [cell_of_row W3 g _ cs _ (0, 0) hbk]; exact C1.out
    have x2 : W3.cell? ⟨g, s * 3 + 2, none⟩ = some (.slice q0 m0 d0) := by rw [cell_of_row W3 g _ cs _ (0, 0) hbk]; exact C2.out
    have fz1 := frozen_of_row W3 g (s * 3 + 1) cs _ hbk
    have fz2 := frozen_of_row W3 g (s * 3 + 2) cs _ hbk
    have hb1 := heap_setCell_same W3 g (s * 3 + 1) cs _ (.bool (decide (a.val < 0))) hbk
    have hb2 := heap_setCell_same _ g (s * 3 + 2) _ _ (.slice p4 n4 c4) hb1
    have hap : Apart (fun k => k = g) W3 ((W3.setCell ⟨g, s * 3 + 1, none⟩ (.bool (decide (a.val < 0)))).setCell ⟨g, s * 3 + 2, none⟩ (.slice p4 n4 c4)) := (apart_set _ _ _ _).go (apart_set _ _ _ _)
    have hraw := (I3.out.rawB HSz.out.2.1).quiet hap (fun b e => e ▸ hT3.noWd)
    have HF := hid (hT3.els s hs (decide (a.val < 0)) p4 n4 c4 a.val hb2 hap hraw)
    have HAp : Hid (Apart (fun k => k = g ∨ (V s).ownBlock = some k) w ((W3.setCell ⟨g, s * 3 + 1, none⟩ (.bool (decide (a.val < 0)))).setCell ⟨g, s * 3 + 2, none⟩ (.slice p4 n4 c4))) := hid ((Apart.of_below HB3.out).go (hap.mono (fun i h => .inl h)))
    have Hput : Hid (tbPut (F s) a = ⟨(F s).rows, a.val⟩) := hid (by unfold tbPut; rw [if_pos hnil])
    have Hl0 := hid hL0
    clear hT3 hbk hb1 hb2 hap hraw hnil hL0
    go_wp2
    exact bodyPost_ret (v := .tuple #[]) (by simp [results, Tryd.results26, go_sem]) rfl ⟨rfl, A, _, V, by rw [Hput.out]; exact HF.out, HAp.out, fun b h => .inl h, fun t k _ h => .inl h⟩
  · have hd : ((L : Int) == 0) = false := by simp; omega
    have hne : a.args ≠ [] := fun e => hL0 (by rw [HL.out, e]; rfl)
    have Hput : Hid (tbPut (F s) a = ⟨(F s).rows ++ [(a.args, a.val)], (F s).els⟩) := hid (by unfold tbPut; rw [if_neg hne])
    clear hne
    go_upto_region 4 with fail
    obtain ⟨W4, hW4⟩ : ∃ W4, W4 = W3.alloc (.cells #[.slice none 0 0, .bool (decide (a.val < 0)), .slice p4 n4 c4] 65) := ⟨_, rfl⟩
    have b4 : Below W3.heap.size W3 W4 := by rw [hW4]; exact below1 W3 _
    have e4 : W4.heap[W3.heap.size]? = some (.cells #[.slice none 0 0, .bool (decide (a.val < 0)), .slice p4 n4 c4] 65 (0, 0)) := by rw [hW4]; exact heap_alloc_new W3 _
    have HB4 := hid (tbGo b4 HB3.out)
    have hz4 : W3.heap.size < W4.heap.size := by rw [hW4, size_alloc]; omega
    have y1'' := (b4.cell (p := ⟨w.heap.size, 1, none⟩) (by show w.heap.size < _; omega)).trans y1'
    have I4 := hid (I3.out.below b4)
    have E4 := hid e4
    have H0 : Hid (a.args.take 0 = []) := hid (by simp)
    have HAt := hid (fun (hp : 0 < a.args.length) => (show NmsIn w (.slice pa L ca) a.args from HN.out).at hp)
    obtain ⟨ii, hii, hiz0, hiz1, hiz2⟩ := info_parts infoInt16
    clear b4 e4 y1'
    go_upto_region 5 with fail
    rw [← hW4]
    clear hW4 t0 t1
    go_wp2_with fail
    clear y1''
    go_loopw [24] (fun i wr => ∃ (k : Nat) (va : Value), k ≤ L ∧ i = .int .i64 (k : Nat) ∧ Hid (wr.heap[W3.heap.size]? = some (.cells #[va, .bool (decide (a.val < 0)), .slice p4 n4 c4] 65 (0, 0))) ∧ Hid (NumsW W4.heap.size wr va (a.args.take k)) ∧ Hid (Apart (fun b => b = W3.heap.size) W4 wr)) (fun i _ => L - (intOf i).toNat)
    case atStart => exact ⟨0, .slice none 0 0, Nat.zero_le _, rfl, E4, hid (by rw [H0.out]; exact NumsW.nil _ _), hid (Apart.refl _ _)⟩
    case round =>
      obtain ⟨k, va, hk, rfl, HBx, HNu, HAp⟩ := hrel
      by_cases hlt : k < L
      · have hka : k < a.args.length := by rw [← HL.out]; exact hlt
        have hlt' : (k : Int) < (L : Int) := by omega
        obtain ⟨b, o, rfl, hb, hc⟩ := HAt.out (by omega)
        obtain ⟨nx, qx, mx, dx, x0, x1, hraw⟩ := hc k hka
        have HwA : Hid (Apart (fun b => b = W3.heap.size) w wr) := hid ((Apart.of_below HB4.out).go HAp.out)
        have hne : b ≠ W3.heap.size := by omega
        have x0 := (HwA.out.cell (p := ⟨b, o + k * 2, none⟩) hb hne).trans x0
        have x1 := (HwA.out.cell (p := ⟨b, o + k * 2 + 1, none⟩) hb hne).trans x1
        have hNW : ∀ u, u = W3.heap.size → NoWd w u := fun u e j n hcx => by
          have := World.block_lt_of_cell? w _ hcx
          simp at this
          omega
        have hraw := hraw.quiet HwA.out hNW
        have hsz := HSz.out.2.2 _ (List.getElem_mem hka)
        have Htk : Hid (a.args.take (k + 1) = a.args.take k ++ [a.args[k]]) := hid (List.take_succ_eq_append_getElem hka)
        have Hkl : Hid ((a.args.take k).length = k) := hid (by simp; omega)
        generalize a.args[k] = z at *
        obtain ⟨W7, hW7⟩ : ∃ W7, W7 = wr.alloc (.cells #[.bool nx, .slice qx mx dx] 32) := ⟨_, rfl⟩
        have b7 : Below wr.heap.size wr W7 := by rw [hW7]; exact below1 wr _
        have e7 : W7.heap[wr.heap.size]? = some (.cells #[.bool nx, .slice qx mx dx] 32 (0, 0)) := by rw [hW7]; exact heap_alloc_new wr _
        have HBx7 := hid ((b7.block W3.heap.size (Array.getElem?_eq_some_iff.1 HBx.out).1).trans HBx.out)
        have HNu7 := HNu.out.below b7
        obtain ⟨pv, cv, hva⟩ := HNu7.shape
        rw [Hkl.out] at hva
        obtain ⟨xs, hrow, hpush⟩ := HNu7.push
        rw [Hkl.out] at hrow hpush
        have Hrow := hid hrow; have Hpush := hid hpush; have Hbase := hid HNu7.base
        have E7 := hid e7
        have HR7 := hid (hraw.below b7)
        have HA7 := hid (HAp.out.go (Apart.of_below b7))
        have Hvlt7 := hid (fun u hu => (HNu.out.base u hu).2.1)
        have Hz := hid hsz
        have hz7 : wr.heap.size < W7.heap.size := by rw [hW7, size_alloc]; omega
        have hw4 := HAp.out.size
        clear hc hraw hNW hsz b7 e7 HNu7 hrow hpush HBx HNu HAp
        subst hva
        go_upto_region 8 with fail
        rw [← hW7]
        clear hW7 x0 x1
        refine wp_region_write (w0 := W7) 7 1 [28, 29, 30, 31, 32, 33, 34] [u28, u29, u30, u31, u32, u33, u34] (S := (fun u => (Value.slice pv k cv).ownBlock = some u))
          (fun i => match i with | 0 => wEq (.pointer (some ⟨W3.heap.size, 0, none⟩)) | 1 => wEq (.slice pv k cv) | 2 => wEq (.agg #[.bool nx, .slice qx mx dx]) | 3 => wIo z | 4 => wIr z | 5 => wAny | _ => wEq (.pointer (some ⟨W3.heap.size, 0, none⟩))) 5 (fun v w => ∃ p n c, RowW w W4.heap.size 32 2 v (k + 1) (xs ++ [.bool (decide (z < 0)), .slice p n c]) ∧ Own w 0 68 .u64 (.slice p n c) (dig W z.natAbs)) (fun _ _ _ ⟨p, n, c, h1, h2⟩ hb => ⟨p, n, c, h1.below hb, h2.kept hb⟩) (by kernel_rfl) (by kernel_rfl) (by kernel_rfl) (by kernel_rfl) (by decide) rfl (by kernel_rfl) rfl (by decide) ?he1 ?_ ?_
        case he1 => simp only [putAll, Act.put, List.setIfInBounds_toArray, List.set_cons_zero, List.set_cons_succ]
        · intro i o hi ho vs wx hvl hb hB hdep K hK
          have hvs := vlen7 hvl
          obtain ⟨s28, s29, s30, s31, s32, s33, s34, rfl⟩ := hvs
          clear hvl
          obtain ⟨y3, y4, -, -⟩ := two_cells ((hb.block wr.heap.size (by omega) (fun e => by have h3 := Hvlt7.out _ e; omega)).trans E7.out)
          obtain ⟨x0, x1, x2⟩ := cells3 ((hb.block W3.heap.size (Array.getElem?_eq_some_iff.1 HBx7.out).1 (fun e => by have := (Hbase.out _ e).1; omega)).trans HBx7.out)
          rcases i with _ | _ | _ | _ | _ | _ | _ | i
          all_goals (simp only [List.getElem?_toArray, List.getElem?_cons_zero, List.getElem?_cons_succ, Option.some.injEq] at ho)
          all_goals try (subst ho)
          all_goals try simp only [putAll, Act.put, List.setIfInBounds_toArray, List.set_cons_zero, List.set_cons_succ]
          · go_simp
            have hK' := hK.out
            simp only [putAll, Act.put, List.setIfInBounds_toArray, List.set_cons_zero, List.set_cons_succ] at hK'
            exact hK' _ _ rfl (fun _ => Below.refl _ _) (fun h => absurd h (by decide))
          · have e0 : s28 = _ := hdep ⟨0, .data⟩ (by simp) rfl
            have e0 := e0.symm
            subst e0
            go_simp
            have hK' := hK.out
            simp only [putAll, Act.put, List.setIfInBounds_toArray, List.set_cons_zero, List.set_cons_succ] at hK'
            exact hK' _ _ rfl (fun _ => Below.refl _ _) (fun h => absurd h (by decide))
          · go_simp
            have hK' := hK.out
            simp only [putAll, Act.put, List.setIfInBounds_toArray, List.set_cons_zero, List.set_cons_succ] at hK'
            exact hK' _ _ rfl (fun _ => Below.refl _ _) (fun h => absurd h (by decide))
          · have e2 : s30 = _ := hdep ⟨2, .data⟩ (by simp) rfl
            have e2 := e2.symm
            subst e2
            go_simp
            refine (Norm_own _ z wx (HR7.out.quiet hb (fun u e => (Hbase.out u e).2.2))).mono ?_
            rintro e wy ⟨vy, rfl, ⟨s5, rfl, ho5⟩, hby⟩
            have hsh := ownsRow_shape ho5
            obtain ⟨p5, c5, rfl⟩ := hsh
            go_wp2_with fail
            have hK' := hK.out
            simp only [putAll, Act.put, List.setIfInBounds_toArray, List.set_cons_zero, List.set_cons_succ] at hK'
            exact hK' _ _ ⟨_, _, _, rfl, ho5.mono (Nat.zero_le _), fun k hk e => by have h1 := (World.ownsRow.lt ho5 k hk).1; have h2 := (Hbase.out k e).2.1; have := hb.size; omega⟩ (fun _ => hby) (fun h => absurd h (by decide))
          · have e3 : (wIo z).P s31 wx := hdep ⟨3, .data⟩ (by simp) rfl
            obtain ⟨p5, n5, c5, rfl, ho5, hoS⟩ := e3
            go_simp
            have hK' := hK.out
            simp only [putAll, Act.put, List.setIfInBounds_toArray, List.set_cons_zero, List.set_cons_succ] at hK'
            exact hK' _ _ ⟨_, p5, n5, c5, rfl, heap_alloc_new _ _, fun e => by have h2 := (Hbase.out _ e).2.1; have := hb.size; omega, ho5.alloc _, hoS⟩ (fun _ => below1 _ _) (fun h => absurd h (by decide))
          · have e1 : s29 = _ := hdep ⟨1, .data⟩ (by simp) rfl
            have e1 := e1.symm
            subst e1
            have e4 : (wIr z).P s32 wx := hdep ⟨4, .data⟩ (by simp) rfl
            have hbB := hB (Or.inl rfl)
            obtain ⟨gg, p5, n5, c5, e8, hg8, hgS, ho5, hoS⟩ := e4
            subst e8
            have hrow : RowW wx W4.heap.size 32 2 (.slice pv k cv) k xs := Hrow.out.below hbB
            have hK' := hK.out
            simp only [putAll, Act.put, List.setIfInBounds_toArray, List.set_cons_zero, List.set_cons_succ] at hK'
            rw [if_pos (by rfl)]
            refine step_append_w (.tmp 29) (.tmp 32) 28 ?ho W4.heap.size 32 ii _ 2 32 Tryd.underlying28 hii hiz0 hiz1 hiz2 rfl (by decide) (by intro n h; simp [Value.cells] at h) (.slice pv k cv) k xs ?hs hrow ⟨gg, 0, none⟩ 1 1 [.bool (decide (z < 0)), .slice p5 n5 c5] ?hx rfl ?c1 ?c2 ?c6 ?c3 ?c4 ?c5 ?_
            case ho => rfl
            case hs => rfl
            case hx => rfl
            case c1 => exact cellsAt hg8
            case c2 => intro u hu; simp at hu; (rcases hu with rfl | rfl <;> rfl)
            case c6 => intro n h; simp at h
            case c3 => simp [maxLen]; omega
            case c4 => omega
            case c5 => have := hbB.size; omega
            intro v' w' hown' hgrow _
            exact hK' _ _ trivial (fun h => absurd rfl h) (fun _ => ⟨(Apart.refl _ _).grown hgrow (fun k e => e), p5, n5, c5, hown', row_stays ho5 (fun k hk => hgrow.block k (World.ownsRow.lt ho5 k hk).2 (fun e => hoS k hk e.symm))⟩)
          · go_simp
            have hK' := hK.out
            simp only [putAll, Act.put, List.setIfInBounds_toArray, List.set_cons_zero, List.set_cons_succ] at hK'
            exact hK' _ _ rfl (fun _ => Below.refl _ _) (fun h => absurd h (by decide))
          · omega
        · intro vs wx hvl hb hf hJw
          have hvs := vlen7 hvl
          obtain ⟨s28, s29, s30, s31, s32, s33, s34, rfl⟩ := hvs
          have f6 : s34 = .pointer (some ⟨W3.heap.size, 0, none⟩) := hf 6 (by decide)
          subst f6
          obtain ⟨p5, n5, c5, hown, ho5⟩ := (show ∃ p n c, RowW wx W4.heap.size 32 2 s33 (k + 1) (xs ++ [.bool (decide (z < 0)), .slice p n c]) ∧ Own wx 0 68 .u64 (.slice p n c) (dig W z.natAbs) from hJw)
          have hsh := ownsRow_shape hown.1
          obtain ⟨pn, cn, ev⟩ := hsh
          subst ev
          have hS : ∀ u, (Value.slice pv k cv).ownBlock = some u → NoWd W7 u := fun u e => (Hbase.out u e).2.2
          have hnq : NmQ wx [.bool (decide (z < 0)), .slice p5 n5 c5] z := ⟨_, _, rfl, ho5.num.rawB Hz.out⟩
          have hnew := Hpush.out _ wx _ _ z hown hb hS rfl hnq
          have hbxx := (hb.block W3.heap.size (Array.getElem?_eq_some_iff.1 HBx7.out).1 (fun e => by have := (Hbase.out _ e).1; omega)).trans HBx7.out
          obtain ⟨q0', q1', q2'⟩ := cells3 hbxx
          have fz := frozen_of_row wx W3.heap.size 0 _ _ hbxx
          have hb9 := heap_setCell_same wx W3.heap.size 0 _ _ (.slice pn (k + 1) cn) hbxx
          have hbase2 := hnew.base
          have hlast := hnew.apart (apart_set wx W3.heap.size 0 (.slice pn (k + 1) cn)) (fun u e => by rw [e]; exact NoWd.cells hbxx (by simp)) (fun u hu e => by have := (hbase2 u hu).1; omega)
          have HNew : Hid (NumsW W4.heap.size (wx.setCell ⟨W3.heap.size, 0, none⟩ (.slice pn (k + 1) cn)) (.slice pn (k + 1) cn) (a.args.take (k + 1))) := hid (by rw [Htk.out]; exact hlast)
          have HB9 := hid hb9
          have HA9 : Hid (Apart (fun b => b = W3.heap.size) W4 (wx.setCell ⟨W3.heap.size, 0, none⟩ (.slice pn (k + 1) cn))) := hid ((HA7.out.trans hb (fun u e => .inr (Hbase.out u e).1)).go (apart_set _ _ _ _))
          clear hf hvl hJw hown ho5 hnq hnew hbxx hb9 hbase2 hlast hS
          refine wpAny_one (i := 7) (by kernel_rfl) rfl ?_
          intro K hK
          simp only [putAll, Act.put, List.setIfInBounds_toArray, List.set_cons_zero, List.set_cons_succ]
          have hK' := hK.out
          go_simp
          apply hK'
          clear hK hK' q0' q1' q2' fz
          refine wpAny_done (by kernel_rfl) ?_ _
          try simp only [Act.put, List.setIfInBounds_toArray, List.set_cons_zero, List.set_cons_succ]
          go_wp2_with fail
          go_roundw
          case rel => exact ⟨k + 1, _, by omega, by go_num, HB9, HNew, HA9⟩
          case measure => simp [intOf]; omega
      · obtain rfl : k = L := by omega
        have hfull : a.args.take k = a.args := by rw [HL.out, List.take_length]
        have hnu := HNu.out
        rw [hfull] at hnu
        obtain ⟨pv, cv, hva⟩ := hnu.shape
        rw [← HL.out] at hva
        subst hva
        have HwA : Hid (Apart (fun b => b = W3.heap.size) w wr) := hid ((Apart.of_below HB4.out).go HAp.out)
        have hNW : ∀ u, u = W3.heap.size → NoWd w u := fun u e j n hcx => by
          have := World.block_lt_of_cell? w _ hcx
          simp at this
          omega
        have hVlt : ∀ t k, t < S → (V t).ownBlock = some k → k < w.heap.size := fun t k ht hk => by
          obtain ⟨_, _, _, _, _, _, _, _, h5⟩ := HT.out.tabs t ht
          exact (h5.base k hk).2.1
        have hTr := HT.out.keep HwA.out hNW (fun b hb e => by have := HT.out.inA b hb; omega) (by omega) (fun t k ht hk e => by have := hVlt t k ht hk; omega)
        have hIr : IntAt wr (.agg #[.bool (decide (a.val < 0)), .slice p4 n4 c4]) a.val := I4.out.quiet HAp.out (fun u e => by rw [e]; exact NoWd.cells E4.out (by simp))
        obtain ⟨n9, q9, m9, d9, z0, z1, z2, -, hrw⟩ := hTr.tabs s hs
        obtain ⟨pr, cr, hVs⟩ := hrw.shape
        rw [← HRL.out] at hVs
        obtain ⟨xs, hrow, hpush⟩ := hrw.push
        rw [← HRL.out] at hrow hpush
        have Hrow := hid hrow; have Hpush := hid hpush; have Hbase := hid hrw.base
        have HTr := hid hTr; have HIr := hid hIr; have Hnu := hid hnu
        have HVlt := hid hVlt
        have Hblk := hid hTr.block
        have hzr := HAp.out.size
        have Hwr : Hid (w.heap.size ≤ wr.heap.size) := hid (by omega)
        have HoffG := hid (fun k hk => (HT.out.offG s k hs hk).1)
        have HoffA := hid (fun k hk => (HT.out.offG s k hs hk).2)
        have Hvs := hid hVs
        have Hslt := hid (fun u (e : (Value.slice pr RL cr).ownBlock = some u) => hVlt s u hs (by rw [hVs]; exact e))
        obtain ⟨ir, hir, hrz0, hrz1, hrz2⟩ := info_parts infoRow16
        have HC0 := hid z0
        clear hTr hIr hnu hrow hpush hNW hVlt hfull z0 z1 z2 hrw
        rw [hVs] at Hrow HC0
        clear hVs
        go_upto_region 10 with fail
        refine wp_region_write (w0 := wr) 10 1 [36, 37, 38, 39, 40, 41, 42, 43, 44, 45] [undef, undef, undef, undef, undef, undef, undef, undef, undef, undef] (S := (fun u => (Value.slice pr RL cr).ownBlock = some u))
          (fun i => match i with | 0 => wEq (.pointer (some ⟨g, s * 3, none⟩)) | 1 => wEq (.pointer (some ⟨g, s * 3, none⟩)) | 2 => wEq (.pointer (some ⟨g, s * 3, none⟩)) | 3 => wEq (.pointer (some ⟨g, s * 3, none⟩)) | 4 => wEq (.slice pr RL cr) | 5 => wEq (.agg #[.slice pv k cv, .bool (decide (a.val < 0)), .slice p4 n4 c4]) | 6 => wRw [.slice pv k cv, .bool (decide (a.val < 0)), .slice p4 n4 c4] 65 | 7 => wAny | 8 => wEq (.pointer (some ⟨g, s * 3, none⟩)) | _ => wEq (.pointer (some ⟨g, s * 3, none⟩))) 7 (fun v w => RowW w B 65 3 v (RL + 1) (xs ++ [.slice pv k cv, .bool (decide (a.val < 0)), .slice p4 n4 c4]) ∧ ∀ u, v.ownBlock = some u → (Value.slice pr RL cr).ownBlock = some u ∨ wr.heap.size ≤ u) (fun _ _ _ h hb => ⟨h.1.below hb, h.2⟩) (by kernel_rfl) (by kernel_rfl) (by kernel_rfl) (by kernel_rfl) (by decide) rfl (by kernel_rfl) rfl (by decide) ?he2 ?_ ?_
        case he2 => simp only [putAll, Act.put, List.setIfInBounds_toArray, List.set_cons_zero, List.set_cons_succ]
        · intro i o hi ho vs wx hvl hb hB hdep K hK
          have hvs := vlen10 hvl
          obtain ⟨s36, s37, s38, s39, s40, s41, s42, s43, s44, s45, rfl⟩ := hvs
          clear hvl
          obtain ⟨x0, x1, x2⟩ := cells3 ((hb.block W3.heap.size (by omega) (fun e => by have := Hslt.out _ e; omega)).trans HBx.out)
          have x3 : wx.cell? ⟨g, s * 3, none⟩ = some (.slice pr RL cr) := by rw [cell_of_row wx g _ cs _ (0, 0) ((hb.block g (by have := Hwr.out; omega) (fun e => HoffG.out g (by rw [Hvs.out]; exact e) rfl)).trans Hblk.out)]; exact HC0.out
          rcases i with _ | _ | _ | _ | _ | _ | _ | _ | _ | _ | i
          all_goals (simp only [List.getElem?_toArray, List.getElem?_cons_zero, List.getElem?_cons_succ, Option.some.injEq] at ho)
          all_goals try (subst ho)
          all_goals try simp only [putAll, Act.put, List.setIfInBounds_toArray, List.set_cons_zero, List.set_cons_succ]
          · go_simp
            have hK' := hK.out
            simp only [putAll, Act.put, List.setIfInBounds_toArray, List.set_cons_zero, List.set_cons_succ] at hK'
            exact hK' _ _ rfl (fun _ => Below.refl _ _) (fun h => absurd h (by decide))
          · go_simp
            have hK' := hK.out
            simp only [putAll, Act.put, List.setIfInBounds_toArray, List.set_cons_zero, List.set_cons_succ] at hK'
            exact hK' _ _ rfl (fun _ => Below.refl _ _) (fun h => absurd h (by decide))
          · have e1 : s37 = _ := hdep ⟨1, .data⟩ (by simp) rfl
            have e1 := e1.symm
            subst e1
            go_simp
            have hK' := hK.out
            simp only [putAll, Act.put, List.setIfInBounds_toArray, List.set_cons_zero, List.set_cons_succ] at hK'
            exact hK' _ _ rfl (fun _ => Below.refl _ _) (fun h => absurd h (by decide))
          · have e2 : s38 = _ := hdep ⟨2, .data⟩ (by simp) rfl
            have e2 := e2.symm
            subst e2
            go_simp
            have hK' := hK.out
            simp only [putAll, Act.put, List.setIfInBounds_toArray, List.set_cons_zero, List.set_cons_succ] at hK'
            exact hK' _ _ rfl (fun _ => Below.refl _ _) (fun h => absurd h (by decide))
          · have e3 : s39 = _ := hdep ⟨3, .data⟩ (by simp) rfl
            have e3 := e3.symm
            subst e3
            go_simp
            have hK' := hK.out
            simp only [putAll, Act.put, List.setIfInBounds_toArray, List.set_cons_zero, List.set_cons_succ] at hK'
            exact hK' _ _ rfl (fun _ => Below.refl _ _) (fun h => absurd h (by decide))
          · go_simp
            have hK' := hK.out
            simp only [putAll, Act.put, List.setIfInBounds_toArray, List.set_cons_zero, List.set_cons_succ] at hK'
            exact hK' _ _ rfl (fun _ => Below.refl _ _) (fun h => absurd h (by decide))
          · have e5 : s41 = _ := hdep ⟨5, .data⟩ (by simp) rfl
            have e5 := e5.symm
            subst e5
            go_simp
            have hK' := hK.out
            simp only [putAll, Act.put, List.setIfInBounds_toArray, List.set_cons_zero, List.set_cons_succ] at hK'
            exact hK' _ _ ⟨_, rfl, heap_alloc_new _ _, fun e => by have := Hslt.out _ e; have := hb.size; omega⟩ (fun _ => below1 _ _) (fun h => absurd h (by decide))
          · have e4 : s40 = _ := hdep ⟨4, .data⟩ (by simp) rfl
            have e4 := e4.symm
            subst e4
            have e6 : (wRw [.slice pv k cv, .bool (decide (a.val < 0)), .slice p4 n4 c4] 65).P s42 wx := hdep ⟨6, .data⟩ (by simp) rfl
            have hbB := hB (Or.inl rfl)
            obtain ⟨gg, e8, hg8, hgS⟩ := e6
            subst e8
            have hrow : RowW wx B 65 3 (.slice pr RL cr) RL xs := Hrow.out.below hbB
            have hK' := hK.out
            simp only [putAll, Act.put, List.setIfInBounds_toArray, List.set_cons_zero, List.set_cons_succ] at hK'
            rw [if_pos (by rfl)]
            refine step_append_w (.tmp 40) (.tmp 42) 47 ?ho B 65 ir _ 3 56 Tryd.underlying47 hir hrz0 hrz1 hrz2 rfl (by decide) (by intro n h; simp [Value.cells] at h) (.slice pr RL cr) RL xs ?hs hrow ⟨gg, 0, none⟩ 1 1 [.slice pv k cv, .bool (decide (a.val < 0)), .slice p4 n4 c4] ?hx rfl ?c1 ?c2 ?c6 ?c3 ?c4 ?c5 ?_
            case ho => rfl
            case hs => rfl
            case hx => rfl
            case c1 => exact cellsAt hg8
            case c2 => intro u hu; simp at hu; (rcases hu with rfl | rfl | rfl <;> rfl)
            case c6 => intro n h; simp at h
            case c3 => simp [maxLen]; omega
            case c4 => omega
            case c5 => have := hbB.size; have := Hwr.out; omega
            intro v' w' hown' hgrow hfr
            exact hK' _ _ trivial (fun h => absurd rfl h) (fun _ => ⟨(Apart.refl _ _).grown hgrow (fun k e => e), hown', fun u hu => (hfr u hu).imp_right (fun h => Nat.le_trans hbB.size h)⟩)
          · have e0 : s36 = _ := hdep ⟨0, .data⟩ (by simp) rfl
            have e0 := e0.symm
            subst e0
            go_simp
            have hK' := hK.out
            simp only [putAll, Act.put, List.setIfInBounds_toArray, List.set_cons_zero, List.set_cons_succ] at hK'
            exact hK' _ _ rfl (fun _ => Below.refl _ _) (fun h => absurd h (by decide))
          · have e8 : s44 = _ := hdep ⟨8, .data⟩ (by simp) rfl
            have e8 := e8.symm
            subst e8
            go_simp
            have hK' := hK.out
            simp only [putAll, Act.put, List.setIfInBounds_toArray, List.set_cons_zero, List.set_cons_succ] at hK'
            exact hK' _ _ rfl (fun _ => Below.refl _ _) (fun h => absurd h (by decide))
          · omega
        · intro vs wx hvl hb hf hJw
          have hvs := vlen10 hvl
          obtain ⟨s36, s37, s38, s39, s40, s41, s42, s43, s44, s45, rfl⟩ := hvs
          have f9 : s45 = .pointer (some ⟨g, s * 3, none⟩) := hf 9 (by decide)
          subst f9
          obtain ⟨hown, hnn0⟩ := (show RowW wx B 65 3 s43 (RL + 1) (xs ++ [.slice pv k cv, .bool (decide (a.val < 0)), .slice p4 n4 c4]) ∧ ∀ u, s43.ownBlock = some u → (Value.slice pr RL cr).ownBlock = some u ∨ wr.heap.size ≤ u from hJw)
          have hsh := ownsRow_shape hown.1
          obtain ⟨pn, cn, ev⟩ := hsh
          subst ev
          have hVs := Hvs.out
          have hSV : ∀ u, (Value.slice pr RL cr).ownBlock = some u → (V s).ownBlock = some u := fun u e => by rw [hVs]; exact e
          have hbk := (hb.block g (by have := Hwr.out; omega) (fun e => HoffG.out g (hSV g e) rfl)).trans Hblk.out
          have x3 : wx.cell? ⟨g, s * 3, none⟩ = some (.slice pr RL cr) := by rw [cell_of_row wx g _ cs _ (0, 0) hbk]; exact HC0.out
          have fz := frozen_of_row wx g (s * 3) cs _ hbk
          have hb9 := heap_setCell_same wx g (s * 3) cs _ (.slice pn (RL + 1) cn) hbk
          have hNg : NoWd wx g := NoWd.cells hbk HTr.out.noW
          have hnb : ∀ u, (Value.slice pn (RL + 1) cn).ownBlock = some u → u ≠ g := fun u hu e => by
            obtain ⟨cc, hcc⟩ := row_tag hown.1 u hu
            rw [e, hbk] at hcc
            injection hcc with hcc
            injection hcc with _ hcc
            revert hcc; decide
          have hnum : NumsW W4.heap.size wr (.slice pv k cv) a.args := Hnu.out
          have hAn : ∀ u, (Value.slice pv k cv).ownBlock = some u → w.heap.size ≤ u ∧ u < wr.heap.size := fun u hu => ⟨by have := (hnum.base u hu).1; omega, (hnum.base u hu).2.1⟩
          have hnS : ∀ u, (Value.slice pr RL cr).ownBlock = some u → NoWd wr u := fun u e => (Hbase.out u (hSV u e)).2.2
          have hnumx := hnum.apart hb hnS (fun u hu e => by have := HVlt.out s u hs (hSV u e); have := (hAn u hu).1; omega)
          have hap9 := apart_set wx g (s * 3) (.slice pn (RL + 1) cn)
          have hn9 := hnumx.apart hap9 (fun u e => by rw [e]; exact hNg) (fun u hu e => by have := (hAn u hu).1; omega)
          have hI9 := ((HIr.out.quiet hb hnS).quiet hap9 (fun u e => by rw [e]; exact hNg)).rawB HSz.out.2.1
          have hApp : Apart (fun u => u = g ∨ (V s).ownBlock = some u) wr (wx.setCell ⟨g, s * 3, none⟩ (.slice pn (RL + 1) cn)) := (hb.mono (fun u e => .inr (hSV u e))).go (hap9.mono (fun u e => .inl e))
          have hrow9 : RowW (wx.setCell ⟨g, s * 3, none⟩ (.slice pn (RL + 1) cn)) B 65 3 (.slice pn (RL + 1) cn) (RL + 1) (xs ++ [.slice pv k cv, .bool (decide (a.val < 0)), .slice p4 n4 c4]) := hown.stays (fun u hu => hap9.block u (World.ownsRow.lt hown.1 u hu).2 (hnb u hu))
          obtain ⟨Anew, hAnew⟩ : ∃ A' : Nat → Prop, A' = fun u => A u ∨ (Value.slice pv k cv).ownBlock = some u := ⟨_, rfl⟩
          have hnn : ∀ u, (Value.slice pn (RL + 1) cn).ownBlock = some u → (V s).ownBlock = some u ∨ w.heap.size ≤ u := fun u hu => (hnn0 u hu).elim (fun h => .inl (hSV u h)) (fun h => .inr (Nat.le_trans Hwr.out h))
          have hns : ∀ u, (Value.slice pn (RL + 1) cn).ownBlock = some u → ¬ Anew u := fun u hu hA => by
            rw [hAnew] at hA
            rcases hA with hA | hA
            · rcases hnn u hu with h9 | h9
              · exact HoffA.out u h9 hA
              · have := HT.out.inA u hA; omega
            · rcases hnn0 u hu with h9 | h9
              · have := HVlt.out s u hs (hSV u h9); have := (hAn u hA).1; omega
              · have := (hAn u hA).2; omega
          have hAA : ∀ u, A u → Anew u := fun u h => by rw [hAnew]; exact .inl h
          have hTn : TbSt wr B g S Anew F cs V := HTr.out.more hAA (fun t k ht hk hA => by
              rw [hAnew] at hA
              rcases hA with hA | hA
              · exact (HT.out.offG t k ht hk).2 hA
              · have := HVlt.out t k ht hk; have := (hAn k hA).1; omega)
            (fun hA => by
              rw [hAnew] at hA
              rcases hA with hA | hA
              · exact HT.out.notA hA
              · have := (hAn g hA).1; omega)
            (fun b hA => by
              rw [hAnew] at hA
              rcases hA with hA | hA
              · have := HT.out.inA b hA; have := Hwr.out; omega
              · exact (hAn b hA).2)
          have hTw := hTn.row s hs (.slice pn (RL + 1) cn) (a.args, a.val) hb9 hApp
            (Hpush.out Anew (fun u => u = g ∨ (V s).ownBlock = some u) _ _ _ (a.args, a.val) hrow9 hApp (fun u e => by
                rcases e with e | e
                · rw [e]; exact HTr.out.noWd
                · exact (Hbase.out u e).2.2)
              (fun u hu e => by
                rcases e with e | e
                · exact HTr.out.notA (e ▸ hu)
                · exact HoffA.out u e hu) hAA rfl ⟨_, _, _, rfl, (hn9.in (P := Anew) (fun u hu => by rw [hAnew]; exact .inr hu)), hI9⟩)
            (fun u hu => (hnn0 u hu).imp_left (hSV u)) hns (by intro n h; cases h) (fun _ h => h) (fun _ h => .inl h)
          have hbw : Below w.heap.size w wr := HwA.out.below (Nat.le_refl _) (fun i e => by omega)
          have HTf := hid hTw
          have HApf := hid ((Apart.of_below (S := fun u => u = g ∨ (V s).ownBlock = some u) hbw).go hApp)
          have HAn2 : Hid (∀ b, Anew b → A b ∨ w.heap.size ≤ b) := hid (fun b hA => by
            rw [hAnew] at hA
            rcases hA with hA | hA
            · exact .inl hA
            · exact .inr (hAn b hA).1)
          have HVf : Hid (∀ t k, t < S → (if t = s then Value.slice pn (RL + 1) cn else V t).ownBlock = some k → (V t).ownBlock = some k ∨ w.heap.size ≤ k) := hid (fun t k ht hk => by
            by_cases e : t = s
            · rw [if_pos e] at hk; rw [e]; exact hnn k hk
            · rw [if_neg e] at hk; exact .inl hk)
          clear hf hvl hJw hTn hTw hbw hnn hns hAA hAnew hI9 hn9 hap9 hApp hrow9 hnumx hnum hAn hnS hnb hNg hb9 hbk hown hnn0 hSV hVs
          refine wpAny_one (i := 10) (by kernel_rfl) rfl ?_
          intro K hK
          simp only [putAll, Act.put, List.setIfInBounds_toArray, List.set_cons_zero, List.set_cons_succ]
          have hK' := hK.out
          go_simp
          apply hK'
          clear hK hK' x3 fz
          refine wpAny_done (by kernel_rfl) ?_ _
          try simp only [Act.put, List.setIfInBounds_toArray, List.set_cons_zero, List.set_cons_succ]
          go_wp2
          go_end0
          exact ⟨rfl, Anew, _, _, by rw [Hput.out]; exact HTf.out, HApf.out, HAn2.out, HVf.out⟩
end Go.Proofs.YtlffiomlpkopbaaDoor
/- tables.Build. -/
namespace Go.Proofs.YtlffiomlpkopbaaDoor
open Go.RowKit Big Go.WideMaps

theorem madeTab (x y z : Value) (S s j : Nat) (hs : s < S) (hj : j < 3) : (madeCells #[x, y, z] (S * 3))[s * 3 + j]? = #[x, y, z][j]? := by
  have h1 : s * 3 + j < S * 3 := by omega
  have h2 : (s * 3 + j) % 3 = j := by omega
  simp only [madeCells, Array.getElem?_map]
  rw [Array.getElem?_range, if_pos h1]
  have e : #[x, y, z].size = 3 := rfl
  show some (#[x, y, z][(s * 3 + j) % 3]!) = _
  rw [h2]
  rcases j with _ | _ | _ | j
  · rfl
  · rfl
  · rfl
  · omega
theorem made_noU (x y z : Value) (S : Nat) (hx : ∀ n, x ≠ .int .u64 n) (hy : ∀ n, y ≠ .int .u64 n) (hz : ∀ n, z ≠ .int .u64 n) : ∀ n, .int .u64 n ∉ madeCells #[x, y, z] S := by
  intro n hn
  simp only [madeCells, Array.mem_map] at hn
  obtain ⟨i, -, hi⟩ := hn
  have h : i % 3 < 3 := Nat.mod_lt _ (by omega)
  have hi : #[x, y, z][i % 3]! = .int .u64 n := hi
  rcases hj : i % 3 with _ | _ | _ | j
  · rw [hj] at hi; exact hx n hi
  · rw [hj] at hi; exact hy n hi
  · rw [hj] at hi; exact hz n hi
  · omega
theorem TbSt.made (w : World) (B S : Nat) (hB : B ≤ w.heap.size) : TbSt (w.alloc (.cells (madeCells #[.slice none 0 0, .bool false, .slice none 0 0] (S * 3)) 49)) B w.heap.size S (fun _ => False) (fun _ => ⟨[], 0⟩) (madeCells #[.slice none 0 0, .bool false, .slice none 0 0] (S * 3)) (fun _ => .slice none 0 0) :=
  { block := heap_alloc_new w _
    size := size_madeCells _ _
    noW := made_noU _ _ _ _ (by intro n h; cases h) (by intro n h; cases h) (by intro n h; cases h)
    base := hB
    tabs := fun s hs => ⟨false, none, 0, 0, by have := madeTab (.slice none 0 0) (.bool false) (.slice none 0 0) S s 0 hs (by decide); simpa using this, by have := madeTab (.slice none 0 0) (.bool false) (.slice none 0 0) S s 1 hs (by decide); simpa using this, by have := madeTab (.slice none 0 0) (.bool false) (.slice none 0 0) S s 2 hs (by decide); simpa using this,
      (IntAt.zero _).rawB (by simp [sz_zero]), RowsW.nil _ _ _⟩
    apart := fun s t k _ _ h _ => by cases h
    offG := fun s k _ h => by cases h
    notA := fun h => h
    inA := fun b h => False.elim h }
theorem make_tabs (S : Nat) (hS : S ≤ 100000) (w : World) : (Instr.makeSlice 35 (.int .i64 (S : Nat)) (.int .i64 (S : Nat))).run Tryd.prog w = .ok (.slice (some ⟨w.heap.size, 0, none⟩) S S) (w.alloc (.cells (madeCells #[.slice none 0 0, .bool false, .slice none 0 0] (S * 3)) 49)) := by
  obtain ⟨i0, hi, hz0, hz1, hz2⟩ := info_parts infoTab16
  have hr := run_make (P := Tryd.prog) w 35 49 i0 _ Tryd.underlying35 hi hz0 .i64 .i64 (S : Nat) (S : Nat) (by omega) (Int.le_refl _) (by rw [hz2]; omega) (by omega)
  have e : (Value.agg #[.slice none 0 0, .bool false, .slice none 0 0]).cells = #[.slice none 0 0, .bool false, .slice none 0 0] := by simp [Value.cells]
  rw [hz1, e] at hr
  simpa using hr
theorem tb_step_put (l : List Ap) (k s : Nat) (hk : k < l.length) (hs : l[k].sym = (s : Int)) (hf : tbFirst l l[k] = k) :
    (fun t : Nat => if t = s then tbPut (tbTab (l.take k) ((s : Nat) : Int)) l[k] else tbTab (l.take k) (t : Nat)) = fun t : Nat => tbTab (l.take (k + 1)) (t : Nat) := by
  funext t
  rw [tbTab_step l k hk, hs]
  by_cases e : t = s
  · subst e
    rw [if_pos rfl, if_pos rfl]
    unfold tbPut
    by_cases h : l[k].args = []
    · rw [if_pos h]; unfold tbAdd; rw [if_pos h]
    · rw [if_neg h]
      have := tbAdd_new l k hk hf h
      rw [hs] at this
      exact this.symm
  · rw [if_neg e, if_neg (by omega)]
theorem tb_step_old (l : List Ap) (k : Nat) (hk : k < l.length) (hok : tbOk l) (hf : tbFirst l l[k] ≠ k) : (fun t : Nat => tbTab (l.take k) (t : Nat)) = fun t : Nat => tbTab (l.take (k + 1)) (t : Nat) := by
  funext t
  rw [tbTab_step l k hk]
  by_cases e : l[k].sym = (t : Int)
  · rw [if_pos e]
    have := tbAdd_old l hok k hk (by have := tbFirst_le hk; omega)
    rw [e] at this
    exact this.symm
  · rw [if_neg e]
/-- what Build answers -/
def RBuild (syms : List Sy) (l : List Ap) (w : World) (e : Ending) (w' : World) : Prop := ∃ p n c, e = .returned (.tuple #[.agg #[.slice p n c], .int .i64 (tbFault syms l)]) ∧ (tbFault syms l = 0 → TbsP (fun b => w.heap.size < b) w' (.slice p n c) (tbTabs syms l)) ∧ (tbFault syms l ≠ 0 → p = none ∧ n = 0 ∧ c = 0) ∧ Below w.heap.size w w'

set_option maxRecDepth 100000 in
set_option maxHeartbeats 12800000 in
theorem Build_any (vs v : Value) (syms : List Sy) (l : List Ap) (w : World) (hs : SysIn w vs syms) (h : ApsIn w v l) (hz : ∀ a ∈ l, ApSz a) (hl : l.length ≤ 1000) (hS : syms.length ≤ 100000) (htab : Tb w.heap.size w) :
    Calls Tryd.prog 12 #[vs, v] w (RBuild syms l w) := by
  obtain ⟨W1, hW⟩ : ∃ W1, W1 = w.alloc (.cells #[.slice none 0 0] 37) := ⟨_, rfl⟩
  have b0 : Below w.heap.size w W1 := by rw [hW]; exact below1 w _
  have e0 : W1.heap[w.heap.size]? = some (.cells #[.slice none 0 0] 37 (0, 0)) := by rw [hW]; exact heap_alloc_new w _
  have hz1 : w.heap.size < W1.heap.size := (Array.getElem?_eq_some_iff.1 e0).1
  have HF := hid (fault_any vs v syms l W1 (hs.below b0) (h.below b0) hz hl (tab_later htab b0))
  have HB0 := hid b0; have E0 := hid e0
  have hs' := hs; have h' := h
  obtain ⟨ps, cs, rfl, -, -, -, -⟩ := hs'
  obtain ⟨p, cap, rfl, i1, i2, -, -⟩ := h'
  unfold maxLen at i2
  obtain ⟨R, hR⟩ : ∃ R, R = tbFault syms l := ⟨_, rfl⟩
  have HR := hid hR
  rw [← hR] at HF
  have HH := hid h
  have HS := hid hs
  have HZ := hid hz
  have Htab := hid htab
  have hmm := @run_makeMap Tryd.prog
  have hmk := fun w => make_tabs syms.length hS w
  obtain ⟨L, hL⟩ : ∃ L, L = l.length := ⟨_, rfl⟩
  have HL := hid hL
  obtain ⟨S, hSe⟩ : ∃ S, S = syms.length := ⟨_, rfl⟩
  have HSe := hid hSe
  have HRB : Hid (RBuild syms l w = fun e w' => ∃ p n c, e = .returned (.tuple #[.agg #[.slice p n c], .int .i64 R]) ∧ (R = 0 → TbsP (fun b => w.heap.size < b) w' (.slice p n c) (tbTabs syms l)) ∧ (R ≠ 0 → p = none ∧ n = 0 ∧ c = 0) ∧ Below w.heap.size w w') := hid (by rw [hR]; rfl)
  rw [HRB.out]
  rw [← hL] at i1 hl HF HH ⊢
  rw [← hSe] at hS hmk HF HS ⊢
  clear hs h hz htab b0 e0 hR hL hSe HRB
  go_enter Tryd.func12, Tryd.ntmps12
  go_upto_region 1 with fail
  rw [← hW]
  clear hW
  go_wp2_with fail
  refine HF.out.mono ?_
  rintro e w2 ⟨rfl, b2⟩
  have HB2 := hid (tbGo b2 HB0.out)
  have hz2 := b2.size
  have E2 := hid ((b2.block w.heap.size hz1).trans E0.out)
  clear b2 HF
  by_cases hR0 : R = 0
  · subst hR0
    have h00 : ((0 : Int) != 0) = false := rfl
    have hfz := tbFault_zero HR.out.symm
    have HOk := hid hfz.2.2; have HSy := hid hfz.1
    clear hfz
    have hT0 := TbSt.made w2 w2.heap.size S (Nat.le_refl _)
    obtain ⟨W5, hW5⟩ : ∃ W5, W5 = ((w2.alloc (.cells (madeCells #[.slice none 0 0, .bool false, .slice none 0 0] (S * 3)) 49)).alloc (.cells #[.slice (some ⟨w2.heap.size, 0, none⟩) S S] 37)).alloc (.map #[] 0) := ⟨_, rfl⟩
    have b5 : Below w2.heap.size w2 W5 := by rw [hW5]; exact ((below1 _ _).alloc (by simp) _).alloc (by simp; omega) _
    have hT5 : TbSt W5 w2.heap.size w2.heap.size S (fun _ => False) (fun _ => ⟨[], 0⟩) (madeCells #[.slice none 0 0, .bool false, .slice none 0 0] (S * 3)) (fun _ => .slice none 0 0) := by
      rw [hW5]; exact (hT0.below (below1 _ _)).below (below1 _ _)
    have e5 : W5.heap[w2.heap.size + 1]? = some (.cells #[.slice (some ⟨w2.heap.size, 0, none⟩) S S] 37 (0, 0)) := by
      rw [hW5, heap_alloc_old _ _ (by simp)]
      have := heap_alloc_new (w2.alloc (.cells (madeCells #[.slice none 0 0, .bool false, .slice none 0 0] (S * 3)) 49)) (.cells #[.slice (some ⟨w2.heap.size, 0, none⟩) S S] 37)
      rwa [size_alloc] at this
    have hsd : SaidAt W5 (w2.heap.size + 1 + 1) [] := by
      rw [hW5]
      have := SaidAt.made ((w2.alloc (.cells (madeCells #[.slice none 0 0, .bool false, .slice none 0 0] (S * 3)) 49)).alloc (.cells #[.slice (some ⟨w2.heap.size, 0, none⟩) S S] 37))
      rwa [size_alloc, size_alloc] at this
    have hz5 : w2.heap.size + 1 + 1 < W5.heap.size := hsd.lt
    have HB5 := hid (tbGo b5 HB2.out)
    have HE := hid (eachOf_any _ l (w2.heap.size + 1 + 1) w.heap.size W5 (HH.out.below HB5.out) hsd HZ.out (by rw [← HL.out]; exact hl) HB5.out.size (by omega) (fun w3 h3 => Htab.out w3 (HB5.out.trans h3)))
    rw [← HL.out] at HE
    have HT5 := hid hT5; have E5 := hid e5; have HNW := hid hsd.noWd
    have E25 := hid ((b5.block w.heap.size (by omega)).trans E2.out)
    clear hT0 hT5 b5 e5 hsd
    go_upto_region 5 with fail
    go_wp2_with fail
    rw [← hW5]
    clear hW5 hmk
    refine HE.out.mono ?_
    rintro e w5 ⟨v5, rfl, ho5, -, ha5⟩
    have HbW : Hid (Apart (fun u => u = w2.heap.size + 1 + 1) W5 w5) := hid ha5
    have hz6 := ha5.size
    have HT6 : Hid (TbSt w5 w2.heap.size w2.heap.size S (fun _ => False) (fun t : Nat => tbTab (l.take 0) (t : Nat)) (madeCells #[.slice none 0 0, .bool false, .slice none 0 0] (S * 3)) (fun _ => .slice none 0 0)) := hid (by
      have e : (fun t : Nat => tbTab (l.take 0) (t : Nat)) = fun _ => (⟨[], 0⟩ : Tb5) := by funext t; rw [List.take_zero]; rfl
      rw [e]
      exact HT5.out.keep ha5 (fun b e => by rw [e]; exact HNW.out) (fun _ h => h.elim) (by omega) (fun _ k _ h => by cases h))
    have E6 := hid ((ha5.block (w2.heap.size + 1) (by omega) (by omega)).trans E5.out)
    have E26 := hid ((ha5.block w.heap.size (by omega) (by omega)).trans E25.out)
    have HO := hid ho5
    have HO5 := hid (fun g hg => World.ownsRow.lt ho5 g hg)
    obtain ⟨pv, cv, rfl⟩ := ownsRow_shape ho5
    have hz52 : w.heap.size < w2.heap.size := by omega
    have HFA := hid (fun (k : Nat) (hk : k < l.length) => firsts_at hk)
    have HFK := hid (fun (k : Nat) (hk : k < l.length) => tbFirst_le hk)
    have HPt := hid (fun (k s : Nat) (hk : k < l.length) (hs : l[k].sym = (s : Int)) (hf : tbFirst l l[k] = k) => tb_step_put l k s hk hs hf)
    have HPo := hid (fun (k : Nat) (hk : k < l.length) (hf : tbFirst l l[k] ≠ k) => tb_step_old l k hk HOk.out hf)
    have HLen := hid (fun (k s : Nat) => tbTab_len (l.take k) (s : Int))
    have HHat := hid (fun (hp : 0 < l.length) => (show ApsIn w (.slice p l.length cap) l by rw [← HL.out]; exact HH.out).at hp)
    clear ha5 ho5 HE HT5
    go_wp2_with fail
    go_loopw [26] (fun i wr => ∃ (k : Nat) (A : Nat → Prop) (ct : Array Value) (V : Nat → Value), k ≤ L ∧ i = .int .i64 (k : Nat) ∧ Hid (TbSt wr w2.heap.size w2.heap.size S A (fun t : Nat => tbTab (l.take k) (t : Nat)) ct V) ∧ Hid (∀ t u, t < S → (V t).ownBlock = some u → w5.heap.size ≤ u) ∧ Hid (∀ u, A u → w.heap.size < u) ∧ Hid (Apart (fun u => u = w2.heap.size) w5 wr)) (fun i _ => L - (intOf i).toNat)
    case atStart => exact ⟨0, _, _, _, Nat.zero_le _, rfl, HT6, hid (fun t u _ h => by cases h), hid (fun u h => h.elim), hid (Apart.refl _ _)⟩
    case round =>
      obtain ⟨k, A, ct, V, hk, rfl, HT, HVb, HAb, HAp⟩ := hrel
      by_cases hlt : k < L
      · have hka : k < l.length := by rw [← HL.out]; exact hlt
        have hlt' : (k : Int) < (L : Int) := by omega
        have hbw : Below w.heap.size w wr := (HB5.out.trans (HbW.out.below (Nat.le_of_lt (by omega)) (fun u e => by omega))).trans (HAp.out.below (by omega) (fun u e => by omega))
        obtain ⟨b, o, rfl, hb, hc⟩ := HHat.out (by omega)
        obtain ⟨pa, ca, n1, q1, m1, d1, x0, x1, x2, x3, hq, -, -, -⟩ := hc k hka
        obtain ⟨gv, cv2, e, -, hgl⟩ := row_form HO.out (by omega)
        injection e with e _ e2
        subst e e2
        have hcell := World.ownsRow.cells HO.out (g := gv) rfl k _ (HFA.out k hka)
        rw [Go.WideShapes.add_plain, Nat.zero_add] at hcell
        have hgv := (HO5.out gv rfl).1
        have xf := (HAp.out.cell (p := ⟨gv, k, none⟩) hgl (by show gv ≠ _; omega)).trans hcell
        have hsy := HSy.out _ (List.getElem_mem hka)
        obtain ⟨s, hs0⟩ : ∃ s : Nat, l[k].sym = (s : Int) := ⟨l[k].sym.toNat, by omega⟩
        have hsS : s < S := by have := HSe.out; omega
        have hsS' : (s : Int) < (S : Int) := by omega
        have hle := HFK.out k hka
        have hpo := HPo.out k hka
        have hpt := HPt.out k s hka hs0
        have hqr := hq.below hbw
        have hzk := HZ.out _ (List.getElem_mem hka)
        have e7 := (HAp.out.block (w2.heap.size + 1) (by omega) (by omega)).trans E6.out
        have hsl := HLen.out k s
        have HPutA := hid (fun (wx : World) (hbx : Below wr.heap.size wr wx) => put_any w2.heap.size s w2.heap.size S A (fun t : Nat => tbTab (l.take k) (t : Nat)) ct V (.agg #[.int .i64 l[k].sym, .slice pa l[k].args.length ca, .bool n1, .slice q1 m1 d1]) l[k] wx (HT.out.below hbx) hsS ⟨_, rfl, hqr.below hbx⟩ hzk (by have := hbx.size; have := HAp.out.size; omega) (Nat.le_trans hsl (by simp; omega)))
        have HSS : Hid (∀ w', Below wr.heap.size wr w' → w'.cell? ⟨w2.heap.size + 1, 0, none⟩ = some (.slice (some ⟨w2.heap.size, 0, none⟩) S S) ∧ w'.cell? ⟨b, o + k * 4, none⟩ = some (.int .i64 (s : Nat)) ∧ w'.cell? ⟨b, o + k * 4 + 1, none⟩ = some (.slice pa l[k].args.length ca) ∧ w'.cell? ⟨b, o + k * 4 + 2, none⟩ = some (.bool n1) ∧ w'.cell? ⟨b, o + k * 4 + 3, none⟩ = some (.slice q1 m1 d1)) := hid fun w' hw => by
          have h1 := tbGo hw hbw
          have h7 := (hw.block (w2.heap.size + 1) (Array.getElem?_eq_some_iff.1 e7).1).trans e7
          exact ⟨by rw [cell_of_row w' _ 0 _ _ (0, 0) h7]; rfl, by rw [← hs0]; exact (h1.cell (p := ⟨b, o + k * 4, none⟩) hb).trans x0, (h1.cell (p := ⟨b, o + k * 4 + 1, none⟩) hb).trans x1, (h1.cell (p := ⟨b, o + k * 4 + 2, none⟩) hb).trans x2, (h1.cell (p := ⟨b, o + k * 4 + 3, none⟩) hb).trans x3⟩
        generalize hrr : tbFirst l l[k] = r at *
        clear hrr
        rw [hs0] at HPutA
        generalize l[k].args.length = na at *
        clear hc hcell hq hqr hzk x0 x1 x2 x3 hsy e7 hsl hs0
        by_cases hrk : r = k
        · have h11 : ((r : Int) == (k : Int)) = true := by simp; omega
          have HFn := hid (hpt hrk)
          clear hpt hpo
          have hrk' := hid hrk
          clear hrk
          go_upto_region 9 with fail
          refine wp_region_facts (w0 := wr) 12 1 [34, 35, 36, 37, 38, 39, 40, 41, 42, 43, 44, 45] [u34, u35, u36, u37, u38, u39, u40, u41, u42, u43, u44, u45]
            (fun i => match i with | 0 => tbE (.pointer (some ⟨w2.heap.size + 1, 0, none⟩)) | 1 => tbE (.slice (some ⟨w2.heap.size, 0, none⟩) S S) | 2 => tbE (.slice (some ⟨b, o, none⟩) L cap) | 3 => tbE (.int .i64 (k : Nat)) | 4 => tbE (.pointer (some ⟨b, o + k * 4, none⟩)) | 5 => tbE (.pointer (some ⟨b, o + k * 4, none⟩)) | 6 => tbE (.int .i64 (s : Nat)) | 7 => tbE (.pointer (some ⟨w2.heap.size, s * 3, none⟩)) | 8 => tbE (.slice (some ⟨b, o, none⟩) L cap) | 9 => tbE (.int .i64 (k : Nat)) | 10 => tbE (.pointer (some ⟨b, o + k * 4, none⟩)) | _ => tbE (.agg #[.int .i64 (s : Nat), .slice pa na ca, .bool n1, .slice q1 m1 d1])) [] (by kernel_rfl) (by kernel_rfl) (by kernel_rfl) (by kernel_rfl) (by decide) rfl (by kernel_rfl) rfl (by simp) ?he1 ?_ ?_ ?_
          case he1 => simp only [putAll, Act.put, List.setIfInBounds_toArray, List.set_cons_zero, List.set_cons_succ]
          · intro i hi; simp at hi
          · intro i o hi ho vs wx hvl hb hdep K hK
            have hvs := vlen12 hvl
            obtain ⟨s34, s35, s36, s37, s38, s39, s40, s41, s42, s43, s44, s45, rfl⟩ := hvs
            clear hvl
            have hk5 := HSS.out wx hb
            obtain ⟨z0, x0, x1, x2, x3⟩ := hk5
            rcases i with _ | _ | _ | _ | _ | _ | _ | _ | _ | _ | _ | _ | i
            all_goals (simp only [List.getElem?_toArray, List.getElem?_cons_zero, List.getElem?_cons_succ, Option.some.injEq] at ho)
            all_goals try (subst ho)
            all_goals try simp only [putAll, Act.put, List.setIfInBounds_toArray, List.set_cons_zero, List.set_cons_succ]
            · go_simp
              have hK' := hK.out
              simp only [putAll, Act.put, List.setIfInBounds_toArray, List.set_cons_zero, List.set_cons_succ] at hK'
              exact hK' _ _ rfl (Below.refl _ _) (by simp)
            · have e0 : s34 = _ := hdep ⟨0, .data⟩ (by simp) rfl
              have e0 := e0.symm
              subst e0
              go_simp
              have hK' := hK.out
              simp only [putAll, Act.put, List.setIfInBounds_toArray, List.set_cons_zero, List.set_cons_succ] at hK'
              exact hK' _ _ rfl (Below.refl _ _) (by simp)
            · go_simp
              have hK' := hK.out
              simp only [putAll, Act.put, List.setIfInBounds_toArray, List.set_cons_zero, List.set_cons_succ] at hK'
              exact hK' _ _ rfl (Below.refl _ _) (by simp)
            · go_simp
              have hK' := hK.out
              simp only [putAll, Act.put, List.setIfInBounds_toArray, List.set_cons_zero, List.set_cons_succ] at hK'
              exact hK' _ _ rfl (Below.refl _ _) (by simp)
            · have e2 : s36 = _ := hdep ⟨2, .data⟩ (by simp) rfl
              have e2 := e2.symm
              subst e2
              have e3 : s37 = _ := hdep ⟨3, .data⟩ (by simp) rfl
              have e3 := e3.symm
              subst e3
              go_simp
              have hK' := hK.out
              simp only [putAll, Act.put, List.setIfInBounds_toArray, List.set_cons_zero, List.set_cons_succ] at hK'
              exact hK' _ _ rfl (Below.refl _ _) (by simp)
            · have e4 : s38 = _ := hdep ⟨4, .data⟩ (by simp) rfl
              have e4 := e4.symm
              subst e4
              go_simp
              have hK' := hK.out
              simp only [putAll, Act.put, List.setIfInBounds_toArray, List.set_cons_zero, List.set_cons_succ] at hK'
              exact hK' _ _ rfl (Below.refl _ _) (by simp)
            · have e5 : s39 = _ := hdep ⟨5, .data⟩ (by simp) rfl
              have e5 := e5.symm
              subst e5
              go_simp
              have hK' := hK.out
              simp only [putAll, Act.put, List.setIfInBounds_toArray, List.set_cons_zero, List.set_cons_succ] at hK'
              exact hK' _ _ rfl (Below.refl _ _) (by simp)
            · have e1 : s35 = _ := hdep ⟨1, .data⟩ (by simp) rfl
              have e1 := e1.symm
              subst e1
              have e6 : s40 = _ := hdep ⟨6, .data⟩ (by simp) rfl
              have e6 := e6.symm
              subst e6
              go_simp
              have hK' := hK.out
              simp only [putAll, Act.put, List.setIfInBounds_toArray, List.set_cons_zero, List.set_cons_succ] at hK'
              exact hK' _ _ rfl (Below.refl _ _) (by simp)
            · go_simp
              have hK' := hK.out
              simp only [putAll, Act.put, List.setIfInBounds_toArray, List.set_cons_zero, List.set_cons_succ] at hK'
              exact hK' _ _ rfl (Below.refl _ _) (by simp)
            · go_simp
              have hK' := hK.out
              simp only [putAll, Act.put, List.setIfInBounds_toArray, List.set_cons_zero, List.set_cons_succ] at hK'
              exact hK' _ _ rfl (Below.refl _ _) (by simp)
            · have e8 : s42 = _ := hdep ⟨8, .data⟩ (by simp) rfl
              have e8 := e8.symm
              subst e8
              have e9 : s43 = _ := hdep ⟨9, .data⟩ (by simp) rfl
              have e9 := e9.symm
              subst e9
              go_simp
              have hK' := hK.out
              simp only [putAll, Act.put, List.setIfInBounds_toArray, List.set_cons_zero, List.set_cons_succ] at hK'
              exact hK' _ _ rfl (Below.refl _ _) (by simp)
            · have e10 : s44 = _ := hdep ⟨10, .data⟩ (by simp) rfl
              have e10 := e10.symm
              subst e10
              go_simp
              have hK' := hK.out
              simp only [putAll, Act.put, List.setIfInBounds_toArray, List.set_cons_zero, List.set_cons_succ] at hK'
              exact hK' _ _ rfl (Below.refl _ _) (by simp)
            · omega
          · intro vs wx hvl hb hf hdist
            have hvs := vlen12 hvl
            obtain ⟨s34, s35, s36, s37, s38, s39, s40, s41, s42, s43, s44, s45, rfl⟩ := hvs
            have f7 : s41 = .pointer (some ⟨w2.heap.size, s * 3, none⟩) := hf 7 (by decide)
            have f11 : s45 = .agg #[.int .i64 (s : Nat), .slice pa na ca, .bool n1, .slice q1 m1 d1] := hf 11 (by decide)
            subst f7 f11
            have HPut := hid (HPutA.out wx hb)
            have HbX := hid hb
            clear hf hvl hdist hb
            refine wpAny_one (i := 12) (by kernel_rfl) rfl ?_
            intro K hK
            simp only [putAll, Act.put, List.setIfInBounds_toArray, List.set_cons_zero, List.set_cons_succ]
            go_simp
            refine HPut.out.mono ?_
            rintro e w9 ⟨rfl, A9, cs9, V9, hT9, hA9, hAn9, hVn9⟩
            go_wp2_with fail
            have hK' := hK.out
            simp only [List.setIfInBounds_toArray] at hK'
            apply hK'
            clear hK hK'
            have HT9 : Hid (TbSt w9 w2.heap.size w2.heap.size S A9 (fun t => tbTab (l.take (k + 1)) (t : Nat)) cs9 V9) := hid (by rw [← HFn.out]; exact hT9)
            have HA9 : Hid (Apart (fun u => u = w2.heap.size) w5 w9) := hid ((HAp.out.go (Apart.of_below HbX.out)).trans hA9 (fun u e => by
              rcases e with e | e
              · exact .inl e
              · exact .inr (HVb.out s u hsS e)))
            have HV9 : Hid (∀ t u, t < S → (V9 t).ownBlock = some u → w5.heap.size ≤ u) := hid (fun t u ht hu => by
              rcases hVn9 t u ht hu with h1 | h1
              · exact HVb.out t u ht h1
              · have := HAp.out.size; have := HbX.out.size; omega)
            have HAb9 : Hid (∀ u, A9 u → w.heap.size < u) := hid (fun u hu => by
              rcases hAn9 u hu with h1 | h1
              · exact HAb.out u h1
              · have := HAp.out.size; have := HbX.out.size; omega)
            clear hT9 hA9 hAn9 hVn9
            refine wpAny_done (by kernel_rfl) ?_ _
            try simp only [Act.put, List.setIfInBounds_toArray, List.set_cons_zero, List.set_cons_succ]
            go_wp2_with fail
            go_roundw
            case rel => exact ⟨k + 1, A9, cs9, V9, by omega, by go_num, HT9, HV9, HAb9, HA9⟩
            case measure => simp [intOf]; omega
        · have h11 : ((r : Int) == (k : Int)) = false := by simp; omega
          have HFo := hid (hpo hrk)
          clear hpt hpo
          have HT2 : Hid (TbSt wr w2.heap.size w2.heap.size S A (fun t : Nat => tbTab (l.take (k + 1)) (t : Nat)) ct V) := hid (by rw [← HFo.out]; exact HT.out)
          clear hrk
          go_wp2_with fail
          go_roundw
          case rel => exact ⟨k + 1, A, ct, V, by omega, by go_num, HT2, HVb, HAb, HAp⟩
          case measure => simp [intOf]; omega
      · obtain rfl : k = L := by omega
        have hfin : l.take k = l := by rw [HL.out, List.take_length]
        have hT := HT.out
        rw [hfin] at hT
        have hin : TbsP (fun b => w.heap.size < b) wr (.slice (some ⟨w2.heap.size, 0, none⟩) S S) (tbTabs syms l) := by
          have := hT.in (P := fun b => w.heap.size < b) HAb.out (fun b hb => by omega) (by simp [maxLen]; omega)
          unfold tbTabs
          rw [← HSe.out]
          exact this
        have hbw : Below w.heap.size w wr := (HB5.out.trans (HbW.out.below (Nat.le_of_lt (by omega)) (fun u e => by omega))).trans (HAp.out.below (by omega) (fun u e => by omega))
        have e7 := (HAp.out.block (w2.heap.size + 1) (by omega) (by omega)).trans E6.out
        have e27 := (HAp.out.block w.heap.size (by omega) (by omega)).trans E26.out
        have x0 : wr.cell? ⟨w2.heap.size + 1, 0, none⟩ = some (.slice (some ⟨w2.heap.size, 0, none⟩) S S) := by rw [cell_of_row wr _ 0 _ _ (0, 0) e7]; rfl
        have x1 : wr.cell? ⟨w.heap.size, 0, none⟩ = some (.slice none 0 0) := by rw [cell_of_row wr _ 0 _ _ (0, 0) e27]; rfl
        have fz := frozen_of_row wr w.heap.size 0 _ _ e27
        have hbs := heap_setCell_same wr w.heap.size 0 _ _ (.slice (some ⟨w2.heap.size, 0, none⟩) S S) e27
        have y0 : (wr.setCell ⟨w.heap.size, 0, none⟩ (.slice (some ⟨w2.heap.size, 0, none⟩) S S)).cell? ⟨w.heap.size, 0, none⟩ = some (.slice (some ⟨w2.heap.size, 0, none⟩) S S) := by rw [cell_of_row _ w.heap.size 0 _ _ (0, 0) hbs]; rfl
        have HIn := hid (hin.apart (apart_set wr w.heap.size 0 (.slice (some ⟨w2.heap.size, 0, none⟩) S S)) (fun b hb e => by omega) (fun b e => by rw [e]; exact NoWd.cells e27 (by simp)))
        have HBf := hid (hbw.setCell (p := ⟨w.heap.size, 0, none⟩) (Nat.le_refl _) (.slice (some ⟨w2.heap.size, 0, none⟩) S S))
        clear hT hin hbw e7 e27 hbs hfin
        go_wp2
        exact bodyPost_ret (v := .tuple #[.agg #[.slice (some ⟨w2.heap.size, 0, none⟩) S S], .int .i64 0]) (by simp [results, Tryd.results12, go_sem, y0]) rfl ⟨_, S, S, rfl, HIn.out, HBf.out⟩
  · have h00 : (R != 0) = true := by simpa using hR0
    have x0 : w2.cell? ⟨w.heap.size, 0, none⟩ = some (.slice none 0 0) := by rw [cell_of_row w2 w.heap.size 0 _ _ (0, 0) E2.out]; rfl
    have fz := frozen_of_row w2 w.heap.size 0 _ _ E2.out
    have hbs := heap_setCell_same w2 w.heap.size 0 _ _ (.slice none 0 0) E2.out
    have y0 : (w2.setCell ⟨w.heap.size, 0, none⟩ (.slice none 0 0)).cell? ⟨w.heap.size, 0, none⟩ = some (.slice none 0 0) := by rw [cell_of_row _ w.heap.size 0 _ _ (0, 0) hbs]; rfl
    have HBf := hid (HB2.out.setCell (p := ⟨w.heap.size, 0, none⟩) (Nat.le_refl _) (.slice none 0 0))
    have hR9 := hid hR0
    clear hR0 hbs
    go_wp2
    exact bodyPost_ret (v := .tuple #[.agg #[.slice none 0 0], .int .i64 R]) (by simp [results, Tryd.results12, go_sem, y0]) rfl ⟨none, 0, 0, rfl, fun h => absurd h hR9.out, fun _ => ⟨rfl, rfl, rfl⟩, HBf.out⟩
end Go.Proofs.YtlffiomlpkopbaaDoor
/- elenchuslaw16.f, elenchuslaw16.fixed. -/
namespace Go.Proofs.YtlffiomlpkopbaaDoor
open Go.RowKit Big Go.WideMaps

set_option maxRecDepth 100000 in
set_option maxHeartbeats 3200000 in
theorem f_any (a b : Int) (w : World) (ha : 0 ≤ a ∧ a ≤ 100) (hb : 0 ≤ b ∧ b ≤ 100) :
    Calls Tryd.prog 20 #[.int .i64 a, .int .i64 b] w fun e w' => ∃ gb p n c, e = .returned (.agg #[.int .i64 0, .slice (some ⟨gb, 0, none⟩) 1 1, .bool (decide (b < 0)), .slice p n c]) ∧ ApQ w' [.int .i64 0, .slice (some ⟨gb, 0, none⟩) 1 1, .bool (decide (b < 0)), .slice p n c] ⟨0, [a], b⟩ ∧ Below w.heap.size w w' := by
  have hs : ∀ x : Int, 0 ≤ x ∧ x ≤ 100 → sz W x.natAbs ≤ 6 := fun x hx => by
    have h1 := sz_mono W2 (show x.natAbs ≤ 100 by omega)
    have h2 : sz W 100 ≤ 6 := by decide +kernel
    omega
  have Ha := hid (hs a ha); have Hb := hid (hs b hb)
  obtain ⟨W1, hW⟩ : ∃ W1, W1 = w.alloc (.cells #[.int .i64 0, .slice none 0 0, .bool false, .slice none 0 0] 34) := ⟨_, rfl⟩
  have b0 : Below w.heap.size w W1 := by rw [hW]; exact below1 w _
  have e0 : W1.heap[w.heap.size]? = some (.cells #[.int .i64 0, .slice none 0 0, .bool false, .slice none 0 0] 34 (0, 0)) := by rw [hW]; exact heap_alloc_new w _
  have hz1 : w.heap.size < W1.heap.size := (Array.getElem?_eq_some_iff.1 e0).1
  have HA := hid (ROf_any a W1 (by omega) (by omega))
  have HB0 := hid b0; have E0 := hid e0
  have HOf := hid (fun w' => ROf_any b w' (by omega) (by omega))
  clear b0 e0 hs
  go_enter Tryd.func20, Tryd.ntmps20
  go_upto_region 1 with fail
  rw [← hW]
  clear hW
  go_wp2_with fail
  refine HA.out.mono ?_
  rintro e w2 ⟨v2, rfl, i2, b2⟩
  obtain ⟨p2, n2, c2, rfl, i2⟩ := i2.shape
  have hz2 := b2.size
  obtain ⟨W3, hW3⟩ : ∃ W3, W3 = w2.alloc (.cells #[.bool (decide (a < 0)), .slice p2 n2 c2] 32) := ⟨_, rfl⟩
  have b3 : Below w2.heap.size w2 W3 := by rw [hW3]; exact below1 w2 _
  have e3 : W3.heap[w2.heap.size]? = some (.cells #[.bool (decide (a < 0)), .slice p2 n2 c2] 32 (0, 0)) := by rw [hW3]; exact heap_alloc_new w2 _
  have I3 := hid (i2.below b3)
  have E3 := hid e3
  have hz3 : w2.heap.size < W3.heap.size := (Array.getElem?_eq_some_iff.1 e3).1
  have HB3 := hid (tbGo (tbGo b3 b2) HB0.out)
  have E03 := hid ((b3.block w.heap.size (by omega)).trans ((b2.block w.heap.size hz1).trans E0.out))
  have HO3 := hid (HOf.out W3)
  clear i2 b2 b3 e3
  go_wp2_with fail
  rw [← hW3]
  clear hW3
  refine HO3.out.mono ?_
  rintro e w4 ⟨v4, rfl, i4, b4⟩
  obtain ⟨p4, n4, c4, rfl, i4⟩ := i4.shape
  have e04 := (b4.block w.heap.size (by omega)).trans E03.out
  have e34 := (b4.block w2.heap.size hz3).trans E3.out
  have i34 := I3.out.below b4
  obtain ⟨y0, y1, y2, y3⟩ := cells4 e04
  have fz0 := frozen_of_row w4 w.heap.size 0 _ _ e04
  have fz1 := frozen_of_row w4 w.heap.size 1 _ _ e04
  have fz2 := frozen_of_row w4 w.heap.size 2 _ _ e04
  have fz3 := frozen_of_row w4 w.heap.size 3 _ _ e04
  have s1 := heap_setCell_same w4 w.heap.size 0 _ _ (.int .i64 0) e04
  have s2 := heap_setCell_same _ w.heap.size 1 _ _ (.slice (some ⟨w2.heap.size, 0, none⟩) 1 1) s1
  have s3 := heap_setCell_same _ w.heap.size 2 _ _ (.bool (decide (b < 0))) s2
  have s4 := heap_setCell_same _ w.heap.size 3 _ _ (.slice p4 n4 c4) s3
  have hap := (((apart_set w4 w.heap.size 0 (.int .i64 0)).go (apart_set _ w.heap.size 1 (.slice (some ⟨w2.heap.size, 0, none⟩) 1 1))).go (apart_set _ w.heap.size 2 (.bool (decide (b < 0))))).go (apart_set _ w.heap.size 3 (.slice p4 n4 c4))
  have hNW : ∀ u, u = w.heap.size → NoWd w4 u := fun u e => by rw [e]; exact NoWd.cells e04 (by simp)
  have i4f := (i4.quiet hap hNW).rawB Hb.out
  have i3f := (i34.quiet hap hNW).rawB Ha.out
  have e3f := (hap.block w2.heap.size (Array.getElem?_eq_some_iff.1 e34).1 (by omega)).trans e34
  have hbf : Below w.heap.size w _ := (tbGo b4 HB3.out).trans (hap.below (by have := b4.size; omega) (fun u e => by omega))
  obtain ⟨z0, z1, z2, z3⟩ := cells4 s4
  have HQ : Hid (ApQ _ [.int .i64 0, .slice (some ⟨w2.heap.size, 0, none⟩) 1 1, .bool (decide (b < 0)), .slice p4 n4 c4] ⟨0, [a], b⟩) := hid ⟨some ⟨w2.heap.size, 0, none⟩, 1, _, _, rfl, ⟨_, 1, rfl, by simp, by simp [maxLen], by simp, fun _ => ⟨w2.heap.size, 0, rfl, (Array.getElem?_eq_some_iff.1 e3f).1, fun i hi => by
    have hi0 : i = 0 := by simp at hi; omega
    subst hi0
    obtain ⟨k0, k1, -, -⟩ := two_cells e3f
    refine ⟨[.bool (decide (a < 0)), .slice p2 n2 c2], fun j u hj => ?_, ⟨_, _, rfl, i3f⟩⟩
    rcases j with _ | _ | j
    · simp at hj; subst hj; exact k0
    · simp at hj; subst hj; exact k1
    · simp at hj⟩⟩, i4f, by show (Lit.int .i64 0).wf = true; decide⟩
  have HBf := hid hbf
  clear e04 e34 i34 s1 s2 s3 s4 hap hNW i4f i3f e3f hbf i4
  go_wp2
  exact bodyPost_ret (v := .agg #[.int .i64 0, .slice (some ⟨w2.heap.size, 0, none⟩) 1 1, .bool (decide (b < 0)), .slice p4 n4 c4]) (by simp [results, Tryd.results20, go_sem, z0, z1, z2, z3]) rfl ⟨_, _, _, _, rfl, HQ.out, HBf.out⟩
theorem small16 (x : Int) (hx : 0 ≤ x ∧ x ≤ 100) : sz W x.natAbs ≤ 6 := by
  have h1 := sz_mono W2 (show x.natAbs ≤ 100 by omega)
  have h2 : sz W 100 ≤ 6 := by decide +kernel
  omega
theorem f_sz (a b : Int) (ha : 0 ≤ a ∧ a ≤ 100) (hb : 0 ≤ b ∧ b ≤ 100) : ApSz ⟨0, [a], b⟩ := ⟨by simp, small16 b hb, fun z hz => by simp at hz; subst hz; exact small16 z ha⟩
/-- what is said, in one block behind one another -/
theorem aps_of {w : World} {g : Nat} {css : List (List Value)} {l : List Ap} (h : w.heap[g]? = some (.cells css.flatten.toArray 34 (0, 0))) (hl : css.length = l.length) (h4 : ∀ c ∈ css, c.length = 4) (hQ : ∀ i (hi : i < l.length) (hi' : i < css.length), ApQ w css[i] l[i]) (hm : l.length ≤ 1000) : ApsIn w (.slice (some ⟨g, 0, none⟩) l.length l.length) l := by
  refine ⟨_, l.length, rfl, Nat.le_refl _, by simp [maxLen]; omega, by simp, fun _ => ⟨g, 0, rfl, (Array.getElem?_eq_some_iff.1 h).1, fun i hi => ⟨css[i]'(by omega), fun j u hj => ?_, hQ i hi (by omega)⟩⟩⟩
  have h5 := flatten_at h4 i (by omega) j u hj
  rw [cell_of_row w g _ _ _ (0, 0) h, Nat.zero_add]
  simpa using h5
set_option maxRecDepth 100000 in
set_option maxHeartbeats 6400000 in
theorem fixed16_any (w : World) (htab : Tb w.heap.size w) : Calls Tryd.prog 8 #[] w (RBool true w) := by
  have H1 := hid (f_any 1 2 w (by decide) (by decide))
  have H2 := hid (fun w' => f_any 1 3 w' (by decide) (by decide))
  have H3 := hid (fun w' => f_any 1 2 w' (by decide) (by decide))
  have Htab := hid htab
  clear htab
  go_enter Tryd.func8, Tryd.ntmps8
  go_wp2_with fail
  refine H1.out.mono ?_
  rintro e w1 ⟨g1, p1, n1, c1, rfl, q1, b1⟩
  rw [show decide ((2 : Int) < 0) = false from rfl] at q1
  have H2 := hid (H2.out w1)
  have Q1 := hid q1; have B1 := hid b1
  clear q1 b1
  go_wp2_with fail
  refine H2.out.mono ?_
  rintro e w2 ⟨g2, p2, n2, c2, rfl, q2, b2⟩
  rw [show decide ((3 : Int) < 0) = false from rfl] at q2
  obtain ⟨W3, hW3⟩ : ∃ W3, W3 = w2.alloc (.cells #[.int .i64 0, .slice (some ⟨g1, 0, none⟩) 1 1, .bool false, .slice p1 n1 c1, .int .i64 0, .slice (some ⟨g2, 0, none⟩) 1 1, .bool false, .slice p2 n2 c2] 34) := ⟨_, rfl⟩
  have b3 : Below w2.heap.size w2 W3 := by rw [hW3]; exact below1 w2 _
  have e3 : W3.heap[w2.heap.size]? = some (.cells #[.int .i64 0, .slice (some ⟨g1, 0, none⟩) 1 1, .bool false, .slice p1 n1 c1, .int .i64 0, .slice (some ⟨g2, 0, none⟩) 1 1, .bool false, .slice p2 n2 c2] 34 (0, 0)) := by rw [hW3]; exact heap_alloc_new w2 _
  have HB3 := hid (tbGo b3 (tbGo b2 B1.out))
  have hin : ApsIn W3 (.slice (some ⟨w2.heap.size, 0, none⟩) 2 2) [⟨0, [1], 2⟩, ⟨0, [1], 3⟩]   := aps_of (l := [⟨0, [1], 2⟩, ⟨0, [1], 3⟩]) (css := [[.int .i64 0, .slice (some ⟨g1, 0, none⟩) 1 1, .bool false, .slice p1 n1 c1], [.int .i64 0, .slice (some ⟨g2, 0, none⟩) 1 1, .bool false, .slice p2 n2 c2]]) e3 rfl (by simp) (fun i hi hi' => by
    rcases i with _ | _ | i
    · exact Q1.out.below (tbGo b3 b2)
    · exact q2.below b3
    · simp at hi; omega) (by simp)
  have HC := hid (Clash_any _ _ W3 hin (fun a ha => by
    simp at ha
    rcases ha with rfl | rfl
    · exact f_sz 1 2 (by decide) (by decide)
    · exact f_sz 1 3 (by decide) (by decide)) (by simp) (tab_later Htab.out HB3.out))
  have hcl : tbClash [⟨0, [1], 2⟩, ⟨0, [1], 3⟩] = (0, 1, true) := by decide +kernel
  rw [hcl] at HC
  clear hcl hin e3 b3 b2 q2 Q1 H1
  go_wp2_with fail
  try rw [← hW3]
  clear hW3
  refine HC.out.mono ?_
  rintro e w4 ⟨rfl, b4⟩
  have HB4 := hid (tbGo b4 HB3.out)
  clear b4
  dsimp only
  obtain ⟨W5, hW5⟩ : ∃ W5, W5 = w4.alloc (.cells #[.string { data := #[102] }, .int .i64 1, .int .i64 2] 46) := ⟨_, rfl⟩
  have b5 : Below w4.heap.size w4 W5 := by rw [hW5]; exact below1 w4 _
  have e5 : W5.heap[w4.heap.size]? = some (.cells #[.string { data := #[102] }, .int .i64 1, .int .i64 2] 46 (0, 0)) := by rw [hW5]; exact heap_alloc_new w4 _
  have E5 := hid e5
  have HB5 := hid (tbGo b5 HB4.out)
  have hz5 : w4.heap.size < W5.heap.size := (Array.getElem?_eq_some_iff.1 e5).1
  have H3 := hid (H3.out W5)
  clear b5 e5
  go_wp2_with fail
  try rw [← hW5]
  clear hW5
  refine H3.out.mono ?_
  rintro e w6 ⟨g6, p6, n6, c6, rfl, q6, b6⟩
  rw [show decide ((2 : Int) < 0) = false from rfl] at q6
  obtain ⟨W7, hW7⟩ : ∃ W7, W7 = w6.alloc (.cells #[.int .i64 0, .slice (some ⟨g6, 0, none⟩) 1 1, .bool false, .slice p6 n6 c6] 34) := ⟨_, rfl⟩
  have b7 : Below w6.heap.size w6 W7 := by rw [hW7]; exact below1 w6 _
  have e7 : W7.heap[w6.heap.size]? = some (.cells #[.int .i64 0, .slice (some ⟨g6, 0, none⟩) 1 1, .bool false, .slice p6 n6 c6] 34 (0, 0)) := by rw [hW7]; exact heap_alloc_new w6 _
  have HB7 := hid (tbGo b7 (tbGo b6 HB5.out))
  have e57 := (b7.block w4.heap.size (by have := b6.size; omega)).trans ((b6.block w4.heap.size hz5).trans E5.out)
  have hin : ApsIn W7 (.slice (some ⟨w6.heap.size, 0, none⟩) 1 1) [⟨0, [1], 2⟩] := aps_of (l := [⟨0, [1], 2⟩]) (css := [[.int .i64 0, .slice (some ⟨g6, 0, none⟩) 1 1, .bool false, .slice p6 n6 c6]]) e7 rfl (by simp) (fun i hi hi' => by
    rcases i with _ | i
    · exact q6.below b7
    · simp at hi) (by simp)
  have hsy : SysIn W7 (.slice (some ⟨w4.heap.size, 0, none⟩) 1 1) [⟨[102], 1, 2⟩] := ⟨_, 1, rfl, by simp, by simp [maxLen], by simp, fun _ => ⟨w4.heap.size, 0, rfl, (Array.getElem?_eq_some_iff.1 e57).1, fun i hi => by
    have hi0 : i = 0 := by simp at hi; omega
    subst hi0
    obtain ⟨k0, k1, k2⟩ := cells3 e57
    refine ⟨[.string { data := #[102] }, .int .i64 1, .int .i64 2], fun j u hj => ?_, rfl⟩
    rcases j with _ | _ | _ | j
    · simp at hj; subst hj; exact k0
    · simp at hj; subst hj; exact k1
    · simp at hj; subst hj; exact k2
    · simp at hj⟩⟩
  have HBu := hid (Build_any _ _ [⟨[102], 1, 2⟩] [⟨0, [1], 2⟩] W7 hsy hin (fun a ha => by
    simp at ha
    subst ha
    exact f_sz 1 2 (by decide) (by decide)) (by simp) (by simp) (tab_later Htab.out HB7.out))
  have hf0 : tbFault [⟨[102], 1, 2⟩] [⟨0, [1], 2⟩] = 0 := by decide +kernel
  have htt : tbTabs [⟨[102], 1, 2⟩] [⟨0, [1], 2⟩] = [⟨[([1], 2)], 0⟩] := by rfl
  have HBd : Hid (Calls Tryd.prog 12 #[.slice (some ⟨w4.heap.size, 0, none⟩) 1 1, .slice (some ⟨w6.heap.size, 0, none⟩) 1 1] W7 fun e w' => ∃ p n c, e = .returned (.tuple #[.agg #[.slice p n c], .int .i64 0]) ∧ TbsP (fun b => W7.heap.size < b) w' (.slice p n c) [⟨[([1], 2)], 0⟩] ∧ Below W7.heap.size W7 w') := hid (HBu.out.mono (by
    rintro e w' ⟨p, n, c, he, h1, -, h3⟩
    rw [hf0] at he h1
    rw [htt] at h1
    exact ⟨p, n, c, he, h1 rfl, h3⟩))
  clear hf0 htt HBu hsy hin e57 e7 b7 b6 q6 E5
  go_wp2_with fail
  try rw [← hW7]
  clear hW7
  refine HBd.out.mono ?_
  rintro e w8 ⟨p8, n8, c8, rfl, ht8, b8⟩
  have HB8 := hid (tbGo b8 HB7.out)
  obtain ⟨pt, ct, et, -, -, -, h4⟩ := id ht8
  injection et with e1 e2 e3
  subst e1 e2 e3
  obtain ⟨bt, ot, rfl, hbt, -, hct⟩ := h4 (by simp)
  obtain ⟨cc, k0, a9, nn9, s9, rfl, hrw, -⟩ := hct 0 (by simp)
  have z0 := k0 0 _ rfl
  obtain ⟨pr, cr, rfl, -, -, -, -⟩ := hrw
  obtain ⟨W9, hW9⟩ : ∃ W9, W9 = w8.alloc (.cells #[.slice (some ⟨bt, ot, none⟩) 1 c8] 37) := ⟨_, rfl⟩
  have b9 : Below w8.heap.size w8 W9 := by rw [hW9]; exact below1 w8 _
  have e9 : W9.heap[w8.heap.size]? = some (.cells #[.slice (some ⟨bt, ot, none⟩) 1 c8] 37 (0, 0)) := by rw [hW9]; exact heap_alloc_new w8 _
  have x0 : W9.cell? ⟨w8.heap.size, 0, none⟩ = some (.slice (some ⟨bt, ot, none⟩) 1 c8) := by rw [cell_of_row W9 _ 0 _ _ (0, 0) e9]; rfl
  have x1 := (b9.cell (p := ⟨bt, ot + 0 * 3 + 0, none⟩) hbt).trans z0
  have HB9 := hid (tbGo b9 HB8.out)
  simp only [Nat.zero_mul, Nat.add_zero] at x1
  clear ht8 h4 hct k0 z0 b8 b9 e9
  dsimp only [List.length_singleton]
  go_upto_region 3 with fail
  try rw [← hW9]
  clear hW9
  go_wp2
  go_ret
  exact ⟨rfl, HB9.out⟩
end Go.Proofs.YtlffiomlpkopbaaDoor
/- A number that comes in as data: a bool and a slice of words; how it reads. -/
namespace Go.Proofs.YtlffiomlpkopbaaDoor
open Go.ChangeShapes Go.WideShapes Go.ChangeAt Go.RowKit Go.Deep Go.Joins Big

theorem cellsU64 : Tryd.prog.cellsOf 68 = 1 := by kernel_rfl

section
variable {H : Type} {enc : TypeId × Value → H} {w : World} {base : Nat} {spare : Nat → Bool} {held : Bool}
theorem wf_u64 {n : Int} (h : (Lit.int .u64 n).wf = true) : 0 ≤ n ∧ n < (W : Int) := by
  have h' : (decide (IntKind.u64.min ≤ n) && decide (n ≤ IntKind.u64.max)) = true := h
  have e1 : IntKind.u64.min = 0 := by decide
  have e2 : IntKind.u64.max = 18446744073709551615 := by decide
  rw [e1, e2] at h'
  simp only [Bool.and_eq_true, decide_eq_true_eq] at h'
  unfold W
  omega
/-- a slice of words that comes in -/
theorem open_nat {fuel : Nat} {v : Value} {y : DataW H × List MemPlace} (h : DataW.trod enc Tryd.prog w base spare held fuel 30 [v] = some y) : ∃ l, At w .u64 v l ∧ Small W l := by
  rcases open_ints Tryd.underlying30 Tryd.underlying68 cellsU64 h with ⟨hv, -⟩ | ⟨a, len, cap, zs, hv, hb, hl, hm, hz, -, hc, hwf⟩
  · obtain rfl : v = .slice none 0 0 := by simpa using hv
    exact ⟨[], At.nil w .u64, fun n hn => by cases hn⟩
  · obtain rfl : v = .slice (some a) len cap := by simpa using hv
    have hlz : len ≤ zs.length := by rw [hz]; split <;> omega
    refine ⟨(zs.take len).map Int.toNat, ?_, ?_⟩
    · have e : ((zs.take len).map Int.toNat).length = len := by simp [Nat.min_eq_left hlz]
      refine ⟨some a, cap, by rw [e], by rw [e]; exact hl, hm, nofun, fun h0 => ?_⟩
      rw [e] at h0
      have hs := hc 0 (by omega)
      obtain ⟨b, off, spot⟩ := a
      cases spot with
      | some x =>
        exfalso
        revert hs
        unfold World.cell? Addr.add
        split <;> simp
      | none =>
        refine ⟨b, off, rfl, ?_, fun i hi => ?_⟩
        · exact World.block_lt_of_cell? w _ hs
        · rw [e] at hi
          have hci := hc i (by omega)
          have hw := wf_u64 (hwf _ (List.getElem_mem (n := i) (l := zs) (by omega)))
          rw [add_plain] at hci
          rw [hci]
          have hg : zs.getD i 0 = zs[i]'(by omega) := by simp [List.getD, show i < zs.length by omega]
          rw [hg]
          simp only [List.getElem_map, List.getElem_take]
          congr 2
          omega
    · intro n hn
      obtain ⟨x, hx, rfl⟩ := List.mem_map.1 hn
      have hw := wf_u64 (hwf x (List.mem_of_mem_take hx))
      omega
end
end Go.Proofs.YtlffiomlpkopbaaDoor
/- Rows of structs and numbers that come in as data: how they read. -/
namespace Go.Proofs.YtlffiomlpkopbaaDoor
open Go.ChangeShapes Go.WideShapes Go.ChangeAt Go.RowKit Go.Deep Go.Joins Big

theorem laidOutP : laidOutB Tryd.prog = true := by kernel_rfl
theorem ownP : ownKnob Tryd.prog.godebug = none := by kernel_rfl
theorem fieldsIntP : ∃ f0 f1 : Field, Tryd.prog.underlying 32 = some (.struct #[f0, f1]) ∧ f0.type = 4 ∧ f1.type = 30 ∧ f0.offset = 0 ∧ f1.offset = 1 := ⟨_, _, Tryd.underlying32, rfl, rfl, rfl, rfl⟩
theorem cellsIntP : Tryd.prog.cellsOf 32 = 2 := by kernel_rfl
theorem cellsNatP : Tryd.prog.cellsOf 30 = 1 := by kernel_rfl
theorem cellsBoolP : Tryd.prog.cellsOf 4 = 1 := by kernel_rfl
theorem cellsIP : Tryd.prog.cellsOf 3 = 1 := by kernel_rfl
def dataOf {H : Type} : DataW H → List (DataW H)
  | .slice e _ => e
  | _ => []
section
variable {H : Type} {enc : TypeId × Value → H} {w : World} {base : Nat} {spare : Nat → Bool} {held : Bool}
theorem spotless {b off : Nat} {sp : Option _} {v : Value} (h : w.cell? ((⟨b, off, sp⟩ : Addr)) = some v) : sp = none := by
  cases sp with
  | none => rfl
  | some x =>
    exfalso
    revert h
    unfold World.cell?
    split <;> simp
theorem cells_each {a : Addr} {n : Nat} {cs : List Value} (h : w.cells? base a n = some cs) : cs.length = n ∧ ∀ j u, cs[j]? = some u → w.cell? (a.add j) = some u := by
  unfold World.cells? at h
  split at h
  · have hl := mapM_some_length h
    simp at hl
    refine ⟨hl, fun j u hj => ?_⟩
    have hjl : j < n := by
      have := (List.getElem?_eq_some_iff.1 hj).1
      omega
    have := mapM_some_get h j j (by simp [hjl])
    rw [this, hj]
  · cases h
/-- a row of structs that comes in -/
theorem open_rows {α : Type} {t e : TypeId} (size : Nat) (ht : Tryd.prog.underlying t = some (.slice e)) (hsz : Tryd.prog.cellsOf e = size) (hpos : 0 < size) {Q : List Value → α → DataW H → Prop}
    (each : ∀ m cs y, DataW.trod enc Tryd.prog w base spare held m e cs = some y → ∃ x : α, Q cs x y.1) {fuel : Nat} {cs : List Value} {y : DataW H × List MemPlace} (h : DataW.trod enc Tryd.prog w base spare held fuel t cs = some y) :
    ∃ (p : Option Addr) (cap : Nat) (l : List α), cs = [.slice p l.length cap] ∧ l.length ≤ cap ∧ cap ≤ maxLen ∧ (p = none → cap = 0) ∧
      (0 < l.length → ∃ b off, p = some ⟨b, off, none⟩ ∧ b < w.heap.size ∧ ∀ i (h : i < l.length), ∃ c d, c.length = size ∧ (∀ j u, c[j]? = some u → w.cell? ⟨b, off + i * size + j, none⟩ = some u) ∧ Q c l[i] d ∧ d ∈ dataOf y.1) := by
  rcases DataW.trod_slice ht h with ⟨rfl, -⟩ | ⟨a, len, cap, elems, rest, m, rfl, rfl, rfl, hb, hl, hm, hel, hget, -, -⟩
  · exact ⟨none, 0, [], rfl, by simp, by simp [maxLen], fun _ => rfl, fun h => absurd h (by simp)⟩
  · rw [hsz] at hget
    have hone : ∀ i : Fin len, ∃ x : α, ∃ c d, c.length = size ∧ (∀ j u, c[j]? = some u → w.cell? ((a.add (i.1 * size)).add j) = some u) ∧ Q c x d ∧ d ∈ elems.map (·.1) := fun i => by
      have hg := hget i.1 i.2
      have hil : i.1 < elems.length := by omega
      rw [List.getElem?_eq_getElem hil] at hg
      obtain ⟨ci, h1, h2⟩ := Option.bind_eq_some_iff.1 hg
      obtain ⟨x, hx⟩ := each m ci _ h2
      obtain ⟨k1, k2⟩ := cells_each h1
      exact ⟨x, ci, _, k1, k2, hx, List.mem_map.2 ⟨_, List.getElem_mem hil, rfl⟩⟩
    obtain ⟨f, hf⟩ := Classical.axiomOfChoice hone
    have hll : (List.ofFn f).length = len := by simp
    refine ⟨some a, cap, List.ofFn f, by rw [hll], by rw [hll]; exact hl, hm, fun e => by (cases e), fun h0 => ?_⟩
    rw [hll] at h0
    obtain ⟨b, off, sp⟩ := a
    have hsp : sp = none := by
      obtain ⟨c, d, k1, k2, -⟩ := hf ⟨0, h0⟩
      have := k2 0 (c[0]'(by omega)) (by simp)
      simp only [Nat.zero_mul, Addr.add] at this
      exact spotless this
    subst hsp
    have hbl : b < w.heap.size := by
      obtain ⟨c, d, k1, k2, -⟩ := hf ⟨0, h0⟩
      have := k2 0 (c[0]'(by omega)) (by simp)
      exact World.block_lt_of_cell? w _ (by simpa only [add_plain] using this)
    refine ⟨b, off, rfl, hbl, fun i hi => ?_⟩
    rw [hll] at hi
    obtain ⟨c, d, k1, k2, k3, k4⟩ := hf ⟨i, hi⟩
    exact ⟨c, d, k1, fun j u hj => by have := k2 j u hj; simpa only [add_plain] using this, by rw [List.getElem_ofFn]; exact k3, k4⟩
theorem open_ls {α : Type} {t e : TypeId} (size : Nat) (ht : Tryd.prog.underlying t = some (.slice e)) (hsz : Tryd.prog.cellsOf e = size) (hpos : 0 < size) {Q : World → List Value → α → Prop}
    (each : ∀ m cs y, DataW.trod enc Tryd.prog w base spare held m e cs = some y → ∃ x : α, Q w cs x) {fuel : Nat} {cs : List Value} {y : DataW H × List MemPlace} (h : DataW.trod enc Tryd.prog w base spare held fuel t cs = some y) :
    ∃ v l, cs = [v] ∧ LsIn size Q w v l := by
  obtain ⟨p, cap, l, hcs, h1, h2, h3, h4⟩ := open_rows (α := α) (Q := fun cs x _ => Q w cs x) size ht hsz hpos each h
  refine ⟨_, l, hcs, p, cap, rfl, h1, h2, h3, fun h0 => ?_⟩
  obtain ⟨b, off, e, hb, hc⟩ := h4 h0
  refine ⟨b, off, e, hb, fun i hi => ?_⟩
  obtain ⟨c, d, -, k, hq, -⟩ := hc i hi
  exact ⟨c, k, hq⟩
set_option maxRecDepth 100000 in
theorem open_nx {fuel : Nat} {cs : List Value} {y : DataW H × List MemPlace} (h : DataW.trod enc Tryd.prog w base spare held fuel 32 cs = some y) : ∃ x : Nx, NxQ w cs x := by
  obtain ⟨i0, i1, hsi, ei0, ei1, oi0, oi1⟩ := fieldsIntP
  obtain ⟨zs, m, rfl, -, hl, hzl, hzf⟩ := DataW.trod_struct hsi h
  rw [cellsIntP] at hl
  match cs, hl, zs, hzl with
  | [c0, c1], _, [z0, z1], _ =>
    have k0 := hzf 0 i0 rfl
    have k1 := hzf 1 i1 rfl
    rw [ei0, oi0, cellsBoolP] at k0
    rw [ei1, oi1, cellsNatP] at k1
    obtain ⟨b, gb, -⟩ := DataW.trod_bool Tryd.underlying4 (show DataW.trod enc Tryd.prog w base spare held m 4 [c0] = some z0 from k0)
    obtain ⟨ws, hw, hsm⟩ := open_nat (show DataW.trod enc Tryd.prog w base spare held m 30 [c1] = some z1 from k1)
    injection gb with gb _
    subst gb
    obtain ⟨pm, cm, rfl, r⟩ := hw
    exact ⟨⟨b, ws⟩, pm, cm, rfl, ⟨pm, cm, rfl, r⟩, hsm⟩
theorem open_nxs {fuel : Nat} {cs : List Value} {y : DataW H × List MemPlace} (h : DataW.trod enc Tryd.prog w base spare held fuel 28 cs = some y) : ∃ v l, cs = [v] ∧ NxsIn w v l :=
  open_ls 2 Tryd.underlying28 cellsIntP (by decide) (fun _ _ _ h => open_nx h) h
end
end Go.Proofs.YtlffiomlpkopbaaDoor
/- elenchusref16.Few; what comes in. -/
namespace Go.Proofs.YtlffiomlpkopbaaDoor
open Go.RowKit Big Go.WideMaps

/-- what is said, as it comes in -/
structure Apx where
  sym : Int
  args : List Nx
  val : Nx
def Apx.a (x : Apx) : Ap := ⟨x.sym, x.args.map Nx.z, x.val.z⟩
def Apx.fit (x : Apx) : Prop := x.args.length ≤ 8 ∧ x.val.words.length ≤ 4 ∧ ∀ y ∈ x.args, y.words.length ≤ 4
def ApxQ (w : World) (c : List Value) (x : Apx) : Prop := ∃ a n s, c = [.int .i64 x.sym, a, n, s] ∧ NxsIn w a x.args ∧ NxQ w [n, s] x.val ∧ wfI x.sym
theorem ApxQ.below {w w' : World} {c : List Value} {x : Apx} (h : ApxQ w c x) (hb : Below w.heap.size w w') : ApxQ w' c x := by
  obtain ⟨a, n, s, e, h1, h2, h3⟩ := h
  exact ⟨a, n, s, e, h1.below hb, h2.below hb, h3⟩
abbrev ApxsIn := LsIn 4 ApxQ
theorem ApxsIn.below {w w' : World} {v : Value} {l : List Apx} (h : ApxsIn w v l) (hb : Below w.heap.size w w') : ApxsIn w' v l := LsIn.below (Q := ApxQ) (fun h hb => ApxQ.below h hb) h hb
theorem NxsIn.nms {w : World} {v : Value} {l : List Nx} (h : NxsIn w v l) (hf : ∀ x ∈ l, x.words.length ≤ 4) : NmsIn w v (l.map Nx.z) := by
  obtain ⟨p, cap, rfl, h1, h2, h3, h4⟩ := h
  refine ⟨p, cap, by simp, by simpa using h1, h2, h3, fun hp => ?_⟩
  obtain ⟨b, off, e, hb, hc⟩ := h4 (by simpa using hp)
  refine ⟨b, off, e, hb, fun i hi => ?_⟩
  obtain ⟨c, k1, k2⟩ := hc i (by simpa using hi)
  obtain ⟨s, rfl⟩ := k2.two
  refine ⟨_, k1, _, _, rfl, ?_⟩
  have := k2.raw (Nat.le_trans (hf _ (List.getElem_mem (by simpa using hi))) (by decide))
  simpa using this
theorem ApxsIn.aps {w : World} {v : Value} {l : List Apx} (h : ApxsIn w v l) (hf : ∀ x ∈ l, x.fit) : ApsIn w v (l.map Apx.a) := by
  obtain ⟨p, cap, rfl, h1, h2, h3, h4⟩ := h
  refine ⟨p, cap, by simp, by simpa using h1, h2, h3, fun hp => ?_⟩
  obtain ⟨b, off, e, hb, hc⟩ := h4 (by simpa using hp)
  refine ⟨b, off, e, hb, fun i hi => ?_⟩
  obtain ⟨c, k1, a, n, s, rfl, k3, k4, k5⟩ := hc i (by simpa using hi)
  have hfi := hf _ (List.getElem_mem (show i < l.length by simpa using hi))
  obtain ⟨s', e2⟩ := k4.two
  obtain ⟨rfl, rfl⟩ : n = .bool (l[i]'(by simpa using hi)).val.neg ∧ s = s' := by simpa using e2
  obtain ⟨pa, ca, rfl, r⟩ := id k3
  refine ⟨_, k1, pa, ca, (l[i]'(by simpa using hi)).val.neg, s, by simp [Apx.a], ?_, ?_, by simpa [Apx.a] using k5⟩
  · have := k3.nms hfi.2.2
    simpa [Apx.a] using this
  · have := k4.raw (Nat.le_trans hfi.2.1 (by decide))
    simpa [Apx.a] using this
theorem Nx.sm {x : Nx} (hs : Small W x.words) (h : x.words.length ≤ 4) : sz W x.z.natAbs ≤ 6 := by
  unfold Nx.z
  rw [sg_natAbs]
  exact Nat.le_trans (sz_val W2 hs) (by omega)
theorem ApxsIn.sz {w : World} {v : Value} {l : List Apx} (h : ApxsIn w v l) (hf : ∀ x ∈ l, x.fit) : ∀ a ∈ l.map Apx.a, ApSz a := by
  intro a ha
  obtain ⟨x, hx, rfl⟩ := List.mem_map.1 ha
  obtain ⟨i, hi, rfl⟩ := List.mem_iff_getElem.1 hx
  obtain ⟨p, cap, rfl, h1, h2, h3, h4⟩ := h
  obtain ⟨b, off, e, hb, hc⟩ := h4 (by omega)
  obtain ⟨c, k1, a, n, s, rfl, k3, k4, k5⟩ := hc i hi
  have hfi := hf _ (List.getElem_mem hi)
  obtain ⟨p1, cp1, e1, -, hs1⟩ := k4
  refine ⟨by simpa [Apx.a] using hfi.1, Nx.sm hs1 hfi.2.1, fun z hz => ?_⟩
  obtain ⟨y, hy, rfl⟩ := List.mem_map.1 hz
  obtain ⟨j, hj, rfl⟩ := List.mem_iff_getElem.1 hy
  obtain ⟨p2, cap2, -, -, -, -, g4⟩ := k3
  obtain ⟨b2, off2, -, -, hc2⟩ := g4 (by omega)
  obtain ⟨c2, -, p3, cp3, e3, -, hs3⟩ := hc2 j hj
  exact Nx.sm hs3 (hfi.2.2 _ (List.getElem_mem hj))
theorem ApxsIn.at {w : World} {p : Option Addr} {n c : Nat} {l : List Apx} (h : ApxsIn w (.slice p n c) l) (hl : 0 < l.length) : ∃ b o, p = some ⟨b, o, none⟩ ∧ b < w.heap.size ∧ ∀ i (hi : i < l.length), ∃ pa ca bn q d,
    w.cell? ⟨b, o + i * 4, none⟩ = some (.int .i64 l[i].sym) ∧ w.cell? ⟨b, o + i * 4 + 1, none⟩ = some (.slice pa l[i].args.length ca) ∧ w.cell? ⟨b, o + i * 4 + 2, none⟩ = some (.bool bn) ∧ w.cell? ⟨b, o + i * 4 + 3, none⟩ = some (.slice q l[i].val.words.length d) ∧ NxsIn w (.slice pa l[i].args.length ca) l[i].args := by
  obtain ⟨-, -, -, -, h4⟩ := h.cells
  obtain ⟨b, o, e, hb, hc⟩ := h4 hl
  refine ⟨b, o, e, hb, fun i hi => ?_⟩
  obtain ⟨c, k0, a, n, s, rfl, k3, k4, -⟩ := hc i hi
  obtain ⟨pa, ca, rfl, r⟩ := id k3
  obtain ⟨q, d, e2, -, -⟩ := k4
  injection e2 with e2 e3
  injection e3 with e3 _
  subst e2 e3
  exact ⟨pa, ca, _, q, d, k0 0 _ rfl, k0 1 _ rfl, k0 2 _ rfl, k0 3 _ rfl, k3⟩
theorem NxsIn.at {w : World} {p : Option Addr} {n c : Nat} {l : List Nx} (h : NxsIn w (.slice p n c) l) (hl : 0 < l.length) : ∃ b o, p = some ⟨b, o, none⟩ ∧ b < w.heap.size ∧ ∀ i (hi : i < l.length), ∃ bn q d,
    w.cell? ⟨b, o + i * 2, none⟩ = some (.bool bn) ∧ w.cell? ⟨b, o + i * 2 + 1, none⟩ = some (.slice q l[i].words.length d) := by
  obtain ⟨-, -, -, -, h4⟩ := h.cells
  obtain ⟨b, o, e, hb, hc⟩ := h4 hl
  refine ⟨b, o, e, hb, fun i hi => ?_⟩
  obtain ⟨c, k0, q, d, rfl, -, -⟩ := hc i hi
  exact ⟨_, q, d, k0 0 _ rfl, k0 1 _ rfl⟩
def RIf16 (P : Prop) (w : World) (e : Ending) (w' : World) : Prop := ∃ b : Bool, e = .returned (.bool b) ∧ (b = true → P) ∧ Below w.heap.size w w'

set_option maxRecDepth 100000 in
set_option maxHeartbeats 6400000 in
theorem Few16_any (v : Value) (l : List Apx) (w : World) (h : ApxsIn w v l) : Calls Tryd.prog 9 #[v] w (RIf16 (l.length ≤ 60 ∧ ∀ x ∈ l, x.fit) w) := by
  have h' := h
  obtain ⟨p, cap, rfl, i1, i2, -, -⟩ := h'
  unfold maxLen at i2
  have HH := hid (fun (hp : 0 < l.length) => h.at hp)
  have H0 : Hid (∀ x ∈ l.take 0, x.fit) := hid (by simp)
  have HTk := hid (fun (k : Nat) (hk : k < l.length) => List.take_succ_eq_append_getElem hk)
  have HAll : Hid (l.take l.length = l) := hid (List.take_length)
  obtain ⟨P, hP⟩ : ∃ P, P = (l.length ≤ 60 ∧ ∀ x ∈ l, x.fit) := ⟨_, rfl⟩
  have HP : Hid ((l.length ≤ 60 ∧ ∀ x ∈ l, x.fit) → P) := hid (fun h => hP ▸ h)
  rw [← hP]
  obtain ⟨L, hL⟩ : ∃ L, L = l.length := ⟨_, rfl⟩
  have HL := hid hL
  rw [← hL] at i1 ⊢
  clear h hP hL
  go_enter Tryd.func9, Tryd.ntmps9
  go_wp2_with fail
  go_loopw [9] (fun i wr => ∃ k : Nat, k ≤ L ∧ i = .int .i64 (k : Nat) ∧ Hid (∀ x ∈ l.take k, x.fit) ∧ Hid (Below w.heap.size w wr)) (fun i _ => L - (intOf i).toNat)
  case atStart => exact ⟨0, Nat.zero_le _, rfl, H0, hid (Below.refl _ _)⟩
  case round =>
    obtain ⟨k, hk, rfl, HF, HB⟩ := hrel
    by_cases hlt : k < L
    · have hka : k < l.length := by rw [← HL.out]; exact hlt
      have hlt' : (k : Int) < (L : Int) := by omega
      obtain ⟨b, o, rfl, hb, hc⟩ := HH.out (by omega)
      obtain ⟨pa, ca, n1, q1, d1, x0, x1, x2, x3, hnx⟩ := hc k hka
      have x0 := (HB.out.cell (p := ⟨b, o + k * 4, none⟩) hb).trans x0
      have x1 := (HB.out.cell (p := ⟨b, o + k * 4 + 1, none⟩) hb).trans x1
      have x2 := (HB.out.cell (p := ⟨b, o + k * 4 + 2, none⟩) hb).trans x2
      have x3 := (HB.out.cell (p := ⟨b, o + k * 4 + 3, none⟩) hb).trans x3
      have Hfit : Hid (l[k].args.length ≤ 8 → l[k].val.words.length ≤ 4 → (∀ y ∈ l[k].args, y.words.length ≤ 4) → ∀ x ∈ l.take (k + 1), x.fit) := hid (fun h1 h2 h3 x hx => by
        rw [HTk.out k hka] at hx
        rcases List.mem_append.1 hx with hx | hx
        · exact HF.out x hx
        · rw [List.mem_singleton.1 hx]; exact ⟨h1, h2, h3⟩)
      generalize l[k].sym = sk at *
      generalize l[k].val.words.length = nv at *
      generalize l[k].args = ar at *
      have HNat := hid (fun (hp : 0 < ar.length) => hnx.at hp)
      have hsh := hnx
      obtain ⟨_, _, e9, j1, j2, -, -⟩ := hsh
      injection e9 with e9 e10 e11
      subst e11
      unfold maxLen at j2
      clear e9 e10
      obtain ⟨na, hna⟩ : ∃ na, na = ar.length := ⟨_, rfl⟩
      have HNa := hid hna
      rw [← hna] at x1 Hfit j1
      obtain ⟨W3, hW3⟩ : ∃ W3, W3 = wr.alloc (.cells #[.int .i64 sk, .slice pa na ca, .bool n1, .slice q1 nv d1] 34) := ⟨_, rfl⟩
      have b3 : Below wr.heap.size wr W3 := by rw [hW3]; exact below1 wr _
      have e3 : W3.heap[wr.heap.size]? = some (.cells #[.int .i64 sk, .slice pa na ca, .bool n1, .slice q1 nv d1] 34 (0, 0)) := by rw [hW3]; exact heap_alloc_new wr _
      obtain ⟨y0, y1, y2, y3⟩ := cells4 e3
      have HB3 := hid (tbGo b3 HB.out)
      clear hc hnx hna b3 e3
      go_upto_region 4 with fail
      rw [← hW3]
      clear hW3 x0 x1 x2 x3
      by_cases h8 : na ≤ 8
      · have hd : decide ((8 : Int) < (na : Int)) = false := by simp; omega
        by_cases h4 : nv ≤ 4
        · have hd4 : decide ((4 : Int) < (nv : Int)) = false := by simp; omega
          have Hfit2 := hid (Hfit.out h8 h4)
          have h8' := h8
          clear Hfit
          go_wp2_with fail
          clear y0 y1 y2 y3
          obtain ⟨wo, rfl⟩ : ∃ wo, wo = wr := ⟨_, rfl⟩
          go_loopw [27] (fun i wr => ∃ m : Nat, m ≤ na ∧ i = .int .i64 (m : Nat) ∧ Hid (∀ y ∈ ar.take m, y.words.length ≤ 4) ∧ Hid (Below w.heap.size w wr)) (fun i _ => na - (intOf i).toNat)
          case atStart => exact ⟨0, Nat.zero_le _, rfl, hid (by simp), HB3⟩
          case round =>
            obtain ⟨m, hm, rfl, HY, HBm⟩ := hrel
            by_cases hltm : m < na
            · have hma : m < ar.length := by rw [← HNa.out]; exact hltm
              have hltm' : (m : Int) < (na : Int) := by omega
              obtain ⟨b2, o2, rfl, hb2, hc2⟩ := HNat.out (by omega)
              obtain ⟨bn, q2, d2, z0, z1⟩ := hc2 m hma
              have z0 := (HBm.out.cell (p := ⟨b2, o2 + m * 2, none⟩) hb2).trans z0
              have z1 := (HBm.out.cell (p := ⟨b2, o2 + m * 2 + 1, none⟩) hb2).trans z1
              have HYn : Hid (ar[m].words.length ≤ 4 → ∀ y ∈ ar.take (m + 1), y.words.length ≤ 4) := hid (fun h y hy => by
                rw [List.take_succ_eq_append_getElem hma] at hy
                rcases List.mem_append.1 hy with hy | hy
                · exact HY.out y hy
                · rw [List.mem_singleton.1 hy]; exact h)
              generalize ar[m].words.length = nw at *
              have HB4 := hid (tbGo (below1 wr (.cells #[.bool bn, .slice q2 nw d2] 32)) HBm.out)
              clear hc2
              by_cases hw4 : nw ≤ 4
              · have hdw : decide ((4 : Int) < (nw : Int)) = false := by simp; omega
                have HY2 := hid (HYn.out hw4)
                go_wp2_with fail
                go_roundw
                case rel => exact ⟨m + 1, by omega, by go_num, HY2, HB4⟩
                case measure => simp [intOf]; omega
              · have hdw : decide ((4 : Int) < (nw : Int)) = true := by simp; omega
                go_wp2
                go_ret
                exact ⟨false, rfl, (fun h => by cases h), HB4.out⟩
            · obtain rfl : m = na := by omega
              have hfin := HY.out
              rw [HNa.out, List.take_length] at hfin
              have HF2 := hid (Hfit2.out hfin)
              clear hfin
              go_wp2_with fail
              go_roundw
              case rel => exact ⟨k + 1, by omega, by go_num, HF2, HBm⟩
              case measure => simp [intOf]; omega
        · have hd4 : decide ((4 : Int) < (nv : Int)) = true := by simp; omega
          go_wp2
          go_ret
          exact ⟨false, rfl, (fun h => by cases h), HB3.out⟩
      · have hd : decide ((8 : Int) < (na : Int)) = true := by simp; omega
        go_wp2
        go_ret
        exact ⟨false, rfl, (fun h => by cases h), HB3.out⟩
    · obtain rfl : k = L := by omega
      have hfin := HF.out
      rw [HL.out, HAll.out] at hfin
      have Hfin := hid hfin
      clear hfin
      obtain ⟨bl, hbl⟩ : ∃ bl, bl = decide ((k : Int) ≤ 60) := ⟨_, rfl⟩
      have HPf : Hid (bl = true → P) := hid (fun h => HP.out ⟨by rw [← HL.out]; rw [hbl] at h; have := of_decide_eq_true h; omega, Hfin.out⟩)
      have hbl' := hbl.symm
      clear hbl
      go_wp2
      go_ret
      exact ⟨bl, rfl, HPf.out, HB.out⟩
end Go.Proofs.YtlffiomlpkopbaaDoor
/- What is said, and symbols, that come in as data. Made by gen_tbopen.py. -/
namespace Go.Proofs.YtlffiomlpkopbaaDoor
open Go.ChangeShapes Go.WideShapes Go.ChangeAt Go.RowKit Go.Deep Go.Joins Big

def Sy.cells (s : Sy) : List Value := [.string ⟨s.name.toArray⟩, .int .i64 s.arity, .int .i64 s.sort]
theorem fieldsApp : ∃ f0 f1 f2 : Field, Tryd.prog.underlying 34 = some (.struct #[f0, f1, f2]) ∧ f0.type = 3 ∧ f1.type = 28 ∧ f2.type = 32 ∧ f0.offset = 0 ∧ f1.offset = 1 ∧ f2.offset = 2 := ⟨_, _, _, Tryd.underlying34, rfl, rfl, rfl, rfl, rfl, rfl⟩
theorem cellsAppP : Tryd.prog.cellsOf 34 = 4 := by kernel_rfl
theorem cellsIntsP : Tryd.prog.cellsOf 28 = 1 := by kernel_rfl
section
variable {H : Type} {enc : TypeId × Value → H} {w : World} {base : Nat} {spare : Nat → Bool} {held : Bool}
set_option maxRecDepth 100000 in
theorem open_apx {fuel : Nat} {cs : List Value} {y : DataW H × List MemPlace} (h : DataW.trod enc Tryd.prog w base spare held fuel 34 cs = some y) : ∃ x : Apx, ApxQ w cs x := by
  obtain ⟨f0, f1, f2, hs, e0, e1, e2, o0, o1, o2⟩ := fieldsApp
  obtain ⟨xs, n, rfl, -, hl, hlen, hf⟩ := DataW.trod_struct hs h
  rw [cellsAppP] at hl
  match cs, hl, xs, hlen with
  | [c0, c1, c2, c3], _, [y0, y1, y2], _ =>
    have h0 := hf 0 f0 rfl
    have h1 := hf 1 f1 rfl
    have h2 := hf 2 f2 rfl
    rw [e0, o0, cellsIP] at h0
    rw [e1, o1, cellsIntsP] at h1
    rw [e2, o2, cellsIntP] at h2
    obtain ⟨z, g0, -, hw⟩ := DataW.trod_int Tryd.underlying3 (show DataW.trod enc Tryd.prog w base spare held n 3 [c0] = some y0 from h0)
    obtain ⟨v, l, g, k⟩ := open_nxs (show DataW.trod enc Tryd.prog w base spare held n 28 [c1] = some y1 from h1)
    obtain ⟨x, k'⟩ := open_nx (show DataW.trod enc Tryd.prog w base spare held n 32 [c2, c3] = some y2 from h2)
    injection g with g _
    injection g0 with g0 _
    subst g g0
    exact ⟨⟨z, l, x⟩, _, _, _, rfl, k, k', hw⟩
theorem open_apxs {fuel : Nat} {cs : List Value} {y : DataW H × List MemPlace} (h : DataW.trod enc Tryd.prog w base spare held fuel 22 cs = some y) : ∃ v l, cs = [v] ∧ ApxsIn w v l :=
  open_ls 4 Tryd.underlying22 cellsAppP (by decide) (fun _ _ _ h => open_apx h) h
set_option maxRecDepth 100000 in
theorem open_apps {r : Reach} {b0 : Nat} {v : Value} {d : DataW H} {p : List MemPlace} (hv : Value.okWide Tryd.prog w r b0 22 v) (h : DataW.Trod enc Tryd.prog w base spare held 22 v d p) : ∃ l, ApxsIn w v l := by
  obtain ⟨a, len, cap, rfl⟩ := okWide_slice Tryd.underlying22 hv
  obtain ⟨fuel, hf⟩ := h
  obtain ⟨v', l, he, h1⟩ := open_apxs hf
  have hv' : v' = .slice a len cap := by simpa [Value.cells] using he.symm
  rw [hv'] at h1
  exact ⟨l, h1⟩
end
end Go.Proofs.YtlffiomlpkopbaaDoor
/- elenchuslaw16.TablesClash. -/
namespace Go.Proofs.YtlffiomlpkopbaaDoor
open Go.RowKit Big Go.WideMaps

set_option maxRecDepth 100000 in
set_option maxHeartbeats 6400000 in
theorem lawClash_any (v : Value) (l : List Apx) (w : World) (h : ApxsIn w v l) (htab : Tb w.heap.size w) : Calls Tryd.prog 3 #[v] w (RBool true w) := by
  have HX := hid (fixed16_any w htab)
  have HF := hid (fun w' (hb : Below w.heap.size w w') => Few16_any v l w' (h.below hb))
  have HC := hid (fun w' (hb : Below w.heap.size w w') (hf : l.length ≤ 60 ∧ ∀ x ∈ l, x.fit) => Clash_any v (l.map Apx.a) w' ((h.aps hf.2).below hb) (h.sz hf.2) (by rw [List.length_map]; omega) (tab_later htab hb))
  have HRC := hid (fun w' (hb : Below w.heap.size w w') (hf : l.length ≤ 60 ∧ ∀ x ∈ l, x.fit) => RRClash_any v (l.map Apx.a) w' ((h.aps hf.2).below hb) (h.sz hf.2) (by rw [List.length_map]; omega))
  generalize tbClash (l.map Apx.a) = tc at *
  obtain ⟨c1, c2, c3⟩ := tc
  clear h htab
  go_enter Tryd.func3, Tryd.ntmps3
  go_wp2_with fail
  refine HX.out.mono ?_
  rintro e w1 ⟨rfl, b1⟩
  have B1 := hid b1
  have HFb := hid (HF.out w1 b1)
  clear b1 HX HF
  go_wp2_with fail
  refine HFb.out.mono ?_
  rintro e w2 ⟨bf, rfl, hfit, b2⟩
  have B2 := hid (tbGo b2 B1.out)
  clear b2 HFb
  cases bf with
  | false =>
    clear hfit
    go_wp2
    go_ret
    exact ⟨rfl, B2.out⟩
  | true =>
    have hfit := hfit rfl
    have HCb := hid (HC.out w2 B2.out hfit)
    have Hfit := hid hfit
    clear HC hfit
    go_wp2_with fail
    refine HCb.out.mono ?_
    rintro e w3 ⟨rfl, b3⟩
    have B3 := hid (tbGo b3 B2.out)
    have HRb := hid (HRC.out w3 B3.out Hfit.out)
    clear b3 HCb HRC
    dsimp only
    go_wp2_with fail
    refine HRb.out.mono ?_
    rintro e w4 ⟨rfl, b4⟩
    have B4 := hid (tbGo b4 B3.out)
    clear b4 HRb
    dsimp only
    go_wp2
    go_ret
    exact ⟨rfl, B4.out⟩
end Go.Proofs.YtlffiomlpkopbaaDoor
/- The package-level tables that the rows list, as start-up lays them; a world that holds them. -/
namespace Go.Proofs.YtlffiomlpkopbaaDoor
open Go.ChangeShapes Go.WideShapes Go.ChangeAt Go.RowKit

theorem own : ownKnob Tryd.prog.godebug = none := by kernel_rfl
def tabPow : Array Value := #[.int .u64 1, .int .u64 10, .int .u64 100, .int .u64 1000, .int .u64 10000, .int .u64 100000, .int .u64 1000000, .int .u64 10000000, .int .u64 100000000, .int .u64 1000000000, .int .u64 10000000000, .int .u64 100000000000, .int .u64 1000000000000, .int .u64 10000000000000, .int .u64 100000000000000, .int .u64 1000000000000000, .int .u64 10000000000000000, .int .u64 100000000000000000, .int .u64 1000000000000000000, .int .u64 10000000000000000000]
def tab32 : Array Value := #[.int .u8 0, .int .u8 1, .int .u8 28, .int .u8 2, .int .u8 29, .int .u8 14, .int .u8 24, .int .u8 3, .int .u8 30, .int .u8 22, .int .u8 20, .int .u8 15, .int .u8 25, .int .u8 17, .int .u8 4, .int .u8 8, .int .u8 31, .int .u8 27, .int .u8 13, .int .u8 23, .int .u8 21, .int .u8 19, .int .u8 16, .int .u8 7, .int .u8 26, .int .u8 12, .int .u8 18, .int .u8 6, .int .u8 11, .int .u8 5, .int .u8 10, .int .u8 9]
def tab64 : Array Value := #[.int .u8 0, .int .u8 1, .int .u8 56, .int .u8 2, .int .u8 57, .int .u8 49, .int .u8 28, .int .u8 3, .int .u8 61, .int .u8 58, .int .u8 42, .int .u8 50, .int .u8 38, .int .u8 29, .int .u8 17, .int .u8 4, .int .u8 62, .int .u8 47, .int .u8 59, .int .u8 36, .int .u8 45, .int .u8 43, .int .u8 51, .int .u8 22, .int .u8 53, .int .u8 39, .int .u8 33, .int .u8 30, .int .u8 24, .int .u8 18, .int .u8 12, .int .u8 5, .int .u8 63, .int .u8 55, .int .u8 48, .int .u8 27, .int .u8 60, .int .u8 41, .int .u8 37, .int .u8 16, .int .u8 46, .int .u8 35, .int .u8 44, .int .u8 21, .int .u8 52, .int .u8 32, .int .u8 23, .int .u8 11, .int .u8 54, .int .u8 26, .int .u8 40, .int .u8 15, .int .u8 34, .int .u8 20, .int .u8 31, .int .u8 10, .int .u8 25, .int .u8 14, .int .u8 19, .int .u8 9, .int .u8 13, .int .u8 8, .int .u8 7, .int .u8 6]
/-- the object that block k holds behind start-up -/
def laidObj (k : Nat) (o : Obj) : Obj :=
  match o with
  | .cells c t frozen => if k = 0 then .cells tabPow t frozen else if k = 1 then .cells tab32 t frozen else if k = 2 then .cells tab64 t frozen else .cells c t frozen
  | o => o
noncomputable def laidWorld (os : Os) : World :=
  { World.holding Tryd.prog os ⟨#[], #[], []⟩ with heap := (((World.holding Tryd.prog os ⟨#[], #[], []⟩).heap.modify 0 (laidObj 0)).modify 1 (laidObj 1)).modify 2 (laidObj 2) }
end Go.Proofs.YtlffiomlpkopbaaDoor
