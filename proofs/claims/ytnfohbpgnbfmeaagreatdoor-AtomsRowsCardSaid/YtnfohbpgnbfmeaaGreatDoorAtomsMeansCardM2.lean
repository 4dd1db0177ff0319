/- Texts put together: RefLess, RefCompare, RefNum, WholeCmp, WholeSum, RefAdd, RefSub, RefOf, DivSmall, Same, Few, Copied, Copies, Times, Knuth, Guess, LessBy, TakeOff, ShiftUp, ShiftDown, LongMath, DivLong, Div, DivHalves, Gcd, Write, WholeSub, DivZero, Builder, AtBuilder, Late, OpenNum, OpenRows, RefTimes. -/
import Derived.Test.YtnfohbpgnbfmeaaGreatDoorAtomsMeansCardM1
import Derived.Deep.RegionHeld3
import Derived.Deep.AppendLies
import Derived.Lib.ItoaNum
import Derived.Deep.LoopGhost
import Derived.Lib.Builder
import Derived.Lib.AppendStr
import Derived.OneCell
import Derived.Lib.OthersKept
import Derived.Lib.SmallJoins
import Derived.ChangeSlices
import Derived.OpenShut
import Derived.Carry
import Derived.Deep.DeepHandedRow
import Derived.ProofKit
import Derived.ChangeSame
/- elenchusref01.less: differences of digits. -/
namespace Go.Proofs.YtnfohbpgnbfmeaaGreatDoor
open Go.RowKit Big

theorem rless_step {L l0 l1 : List Nat} {k x y c s c2 : Nat} {hk : k < l0.length} (hl : L.length = k) (hx : x = l0[k]) (hy : y = l1[k]?.getD 0) (hs : x + D * c2 = s + y + c)
    (hv : val D L + val D (l1.take k) = val D (l0.take k) + c * D ^ k) : val D (L ++ [s]) + val D (l1.take (k + 1)) = val D (l0.take (k + 1)) + c2 * D ^ (k + 1) := by
  rw [val_snoc, val_take_succ D l0 k hk, val_take_getD, hl, ← hx, ← hy, Nat.pow_succ]
  exact sub_step hs hv

set_option maxRecDepth 100000 in
set_option maxHeartbeats 1600000 in
theorem rless_own (v0 v1 : Value) (l0 l1 : List Nat) (w : World) (h0 : At w .i64 v0 l0) (h1 : At w .i64 v1 l1) (s0 : Small D l0) (s1 : Small D l1)
    (hl0 : l0.length ≤ 4398046511104) (hll : l1.length ≤ l0.length) (hvv : val D l1 ≤ val D l0) : Calls Tryz.prog 64 #[v0, v1] w (ROwn 3 .i64 (dig D (val D l0 - val D l1)) w) := by
  have g1 : ∀ (k : Nat) W, Below w.heap.size w W → ∀ n, Calls Tryz.prog 79 #[v1, .int .i64 (k : Nat)] (W.drewN n) fun e w' => e = .returned (.int .i64 (l1[k]?.getD 0 : Nat)) ∧ w' = W.drewN n := fun k W hb n => at_any v1 l1 k _ ((h1.below hb).drewN n)
  have G1 := hid g1
  clear g1
  have Hvv := hid hvv; clear hvv
  obtain ⟨r, hr⟩ : ∃ r, r = dig D (val D l0 - val D l1) := ⟨_, rfl⟩
  rw [← hr]
  have Hr := hid hr; clear hr
  obtain ⟨p0, c0, rfl, a1, a2, a3, a4⟩ := h0
  obtain ⟨p1, c1, rfl, b1, b2, b3, -⟩ := h1
  unfold maxLen at a2 b2
  go_enter Tryz.func64, Tryz.ntmps64
  go_wp2_with fail
  go_loopw [5, 6, 7] (fun o c i wr => ∃ (k : Nat) (L : List Nat) (c' : Nat), k ≤ l0.length ∧ i = .int .i64 (k : Nat) ∧ c = .int .i64 (c' : Nat) ∧ c' ≤ 1 ∧
      Own wr w.heap.size 3 .i64 o L ∧ Hid (L.length = k) ∧ Small D L ∧ Hid (val D L + val D (l1.take k) = val D (l0.take k) + c' * D ^ k) ∧ Below w.heap.size w wr) (fun _ _ i _ => l0.length - (intOf i).toNat)
  case atStart => exact ⟨0, [], 0, Nat.zero_le _, rfl, rfl, by omega, Own.nil _ _ _ _, rfl, small_nil _, by simp [Hid, val], Below.refl _ _⟩
  case round =>
    obtain ⟨k, L, c', hk, rfl, rfl, hc', hown, hLk, hsl, hv, hbel⟩ := hrel
    by_cases hkl : k < l0.length
    · obtain ⟨b, off, rfl, hbb, hcell⟩ := a4 (by omega)
      have e0 : wr.cell? ⟨b, off + k, none⟩ = some (.int .i64 (l0[k] : Nat)) := (hbel.cell (p := ⟨b, off + k, none⟩) hbb).trans (hcell k hkl)
      have x0 := small_get s0 k hkl
      obtain ⟨x, hx⟩ : ∃ x, x = l0[k] := ⟨_, rfl⟩
      rw [← hx] at e0 x0
      obtain ⟨y, hy⟩ : ∃ y, y = l1[k]?.getD 0 := ⟨_, rfl⟩
      have y0 : y < 65536 := by rw [hy]; exact small_getD s1 (by decide) k
      have t1 := G1.out k wr hbel
      rw [← hy] at t1
      have T1 := hid t1
      have Hx := hid hx; have Hy := hid hy
      clear t1 hx hy hcell a4
      unfold D at x0
      have i0 : (0 : Int) ≤ (k : Int) := by omega
      have i1 : (k : Int) < (l0.length : Int) := by omega
      by_cases hneg : x < y + c'
      · go_wp2_with fail
        go_quiet ((go_at_call 79; exact Calls.quiet_of_same (T1.out _)))
        go_wp2_with (at_builtin; refine wpList_append_at rfl _ _ 99 rfl elemInts w.heap.size _ L rfl ((hown.kept (below_drewN (Below.refl _ _) _)).alloc _) _ [x + 65536 - y - c'] rfl (At.oneI _ _ _ _ _ (by omega)) (by rw [hLk.out]; simp [maxLen]; omega) (by rw [hLk.out]; simp; omega) (by have := hbel.size; simp; omega) ?_; intro v2 w2 ho2 hb2 hs2)
        go_roundw
        case rel => exact ⟨k + 1, L ++ [x + 65536 - y - c'], 1, by omega, by go_num, rfl, by omega, ho2, by have := hLk.out; unfold Hid; simp; omega, small_snoc hsl (show _ < 65536 by omega),
          rless_step hLk.out Hx.out Hy.out (show _ + 65536 * _ = _ by omega) hv.out, ((below_drewN hbel _).trans ((below1 _ _).mono (by have := hbel.size; simp; omega))).trans hb2⟩
        case measure => simp [intOf]; omega
      · go_wp2_with fail
        go_quiet ((go_at_call 79; exact Calls.quiet_of_same (T1.out _)))
        go_wp2_with (at_builtin; refine wpList_append_at rfl _ _ 99 rfl elemInts w.heap.size _ L rfl ((hown.kept (below_drewN (Below.refl _ _) _)).alloc _) _ [x - y - c'] rfl (At.oneI _ _ _ _ _ (by omega)) (by rw [hLk.out]; simp [maxLen]; omega) (by rw [hLk.out]; simp; omega) (by have := hbel.size; simp; omega) ?_; intro v2 w2 ho2 hb2 hs2)
        go_roundw
        case rel => exact ⟨k + 1, L ++ [x - y - c'], 0, by omega, by go_num, rfl, by omega, ho2, by have := hLk.out; unfold Hid; simp; omega, small_snoc hsl (show _ < 65536 by omega),
          rless_step hLk.out Hx.out Hy.out (show _ + 65536 * _ = _ by omega) hv.out, ((below_drewN hbel _).trans ((below1 _ _).mono (by have := hbel.size; simp; omega))).trans hb2⟩
        case measure => simp [intOf]; omega
    · obtain rfl : k = l0.length := by omega
      have hv' : val D L + val D l1 = val D l0 + c' * D ^ l0.length := by
        have := hv.out
        rwa [List.take_length, val_take_ge D l1 _ (by omega)] at this
      have hlt := val_lt (by decide : 0 < D) hsl
      have e : strip L = r := by
        rw [strip_dig D2 hsl, Hr.out]
        have := Hvv.out
        rw [hLk.out] at hlt
        have : c' = 0 := by
          rcases (by omega : c' = 0 ∨ c' = 1) with h | h
          · exact h
          · subst h; omega
        subst this
        congr 1; omega
      have He := hid e; clear hv hv' e hlt a4
      have hst := strip_length L
      have ho' := hown
      obtain ⟨po, co, rfl, -⟩ := id hown.at
      go_wp2_with (go_at_call 78; refine (rtrim_val _ L _ hown.at).mono ?_; rintro e w' ⟨rfl, rfl⟩; simp only [cutTo])
      go_ret
      exact ⟨_, rfl, by rw [← He.out]; have := ho'.take (strip L).length hst; rwa [← strip_is_take] at this, hbel⟩
theorem rless_any (v0 v1 : Value) (l0 l1 : List Nat) (w : World) (h0 : At w .i64 v0 l0) (h1 : At w .i64 v1 l1) (s0 : Small D l0) (s1 : Small D l1)
    (hl0 : l0.length ≤ 4398046511104) (hll : l1.length ≤ l0.length) (hvv : val D l1 ≤ val D l0) : Calls Tryz.prog 64 #[v0, v1] w (RAt .i64 (dig D (val D l0 - val D l1)) w) :=
  (rless_own v0 v1 l0 l1 w h0 h1 s0 s1 hl0 hll hvv).mono fun _ _ ⟨v, he, ho, hb⟩ => ⟨v, he, ho.at, hb⟩
end Go.Proofs.YtnfohbpgnbfmeaaGreatDoor
/- elenchusref01.compare, order: the order of sizes. -/
namespace Go.Proofs.YtnfohbpgnbfmeaaGreatDoor
open Go.RowKit Big

theorem ord_partD {l0 l1 : List Nat} {n m : Nat} (s0 : Small D l0) (s1 : Small D l1) (h0 : val D l0 = n) (h1 : val D l1 = m) {k : Nat} (hk0 : k < l0.length) (hk1 : k < l1.length)
    (hd : l0.drop (k + 1) = l1.drop (k + 1)) : (l0[k] < l1[k] → ord n m = -1) ∧ (l1[k] < l0[k] → ord n m = 1) := by
  refine ⟨fun h => ?_, fun h => ?_⟩
  · have := val_lt_of_part s0 hk0 hk1 hd h
    exact ord_lt (by omega)
  · have := val_lt_of_part s1 hk1 hk0 hd.symm h
    exact ord_gt (by omega)

set_option maxRecDepth 100000 in
set_option maxHeartbeats 1600000 in
theorem rcompare_any (v0 v1 : Value) (n m : Nat) (w : World) (h0 : At w .i64 v0 (dig D n)) (h1 : At w .i64 v1 (dig D m)) :
    Calls Tryz.prog 80 #[v0, v1] w (ROrd (ord n m) w) := by
  have s0 := small_dig D2 n
  have s1 := small_dig D2 m
  have k1 : (dig D n).length < (dig D m).length → n < m := lt_of_sz_lt D2
  have k2 : (dig D m).length < (dig D n).length → m < n := lt_of_sz_lt D2
  have hv0 := val_dig D2 n
  have hv1 := val_dig D2 m
  generalize dig D n = l0 at *
  generalize dig D m = l1 at *
  have Hv0 := hid hv0; clear hv0
  have Hv1 := hid hv1; clear hv1
  obtain ⟨p0, c0, rfl, a1, a2, a3, a4⟩ := h0
  obtain ⟨p1, c1, rfl, b1, b2, b3, b4⟩ := h1
  unfold maxLen at a2 b2
  by_cases hl : l0.length = l1.length
  · have Hl := hid hl
    rw [hl] at a1 ⊢; clear hl
    go_enter Tryz.func80, Tryz.ntmps80
    go_wp2_with fail
    go_loopw [5] (fun i wr => ∃ (k : Nat), k ≤ l1.length ∧ i = .int .i64 ((k : Int) - 1) ∧ Hid (l0.drop k = l1.drop k) ∧ Hid (∃ j, wr = w.drewN j)) (fun i _ => (intOf i + 1).toNat)
    case atStart => exact ⟨l1.length, Nat.le_refl _, rfl, by unfold Hid; rw [List.drop_length, ← Hl.out, List.drop_length], 0, rfl⟩
    case round =>
      obtain ⟨k, hk, rfl, hd, Hw⟩ := hrel
      by_cases hk0 : 0 < k
      · obtain ⟨k, rfl⟩ : ∃ k', k = k' + 1 := ⟨k - 1, by omega⟩
        have hkl : k < l0.length := by rw [Hl.out]; omega
        obtain ⟨b, off, rfl, hbb, hc0⟩ := a4 (Nat.lt_of_le_of_lt (Nat.zero_le _) hkl)
        obtain ⟨b', off', rfl, hbb', hc1⟩ := b4 (by omega)
        have e0 : wr.cell? ⟨b, off + k, none⟩ = some (.int .i64 (l0[k] : Nat)) := by obtain ⟨j, rfl⟩ := Hw.out; exact hc0 k hkl
        have e1 : wr.cell? ⟨b', off' + k, none⟩ = some (.int .i64 (l1[k] : Nat)) := by obtain ⟨j, rfl⟩ := Hw.out; exact hc1 k (by omega)
        have ep := ord_partD s0 s1 Hv0.out Hv1.out hkl (show k < l1.length by omega) hd.out
        have es : l0[k] = l1[k] → l0.drop k = l1.drop k := fun h => by
          rw [List.drop_eq_getElem_cons hkl, List.drop_eq_getElem_cons (show k < l1.length by omega), h, hd.out]
        generalize l0[k] = x at *
        generalize l1[k] = y at *
        have Ep : Hid ((x < y → ord n m = -1) ∧ (y < x → ord n m = 1)) := ep
        have Es : Hid (x = y → l0.drop k = l1.drop k) := es
        clear a4 b4 hc0 hc1 ep es hbb hbb' s0 s1 k1 k2
        have hlow : (0 : Int) ≤ (k : Int) + 1 - 1 := by omega
        rcases Nat.lt_trichotomy x y with hxy | hxy | hxy
        · have Hr : Hid (ord n m = -1) := Ep.out.1 hxy
          clear Ep Es
          go_wp2
          go_quiet (fail)
          go_wp2
          go_ret
          exact ⟨by rw [Hr.out]; rfl, drawn_more Hw.out⟩
        · subst hxy
          go_wp2
          go_quiet (fail)
          go_wp2
          go_quiet (fail)
          go_wp2
          go_roundw
          case rel => exact ⟨k, by omega, rfl, Es.out (by trivial), by first | exact drawn_more Hw.out | exact drawn_more (drawn_more Hw.out)⟩
          case measure => simp [intOf]
        · have Hr : Hid (ord n m = 1) := Ep.out.2 hxy
          clear Ep Es
          go_wp2
          go_quiet (fail)
          go_wp2
          go_quiet (fail)
          go_wp2
          go_ret
          exact ⟨by rw [Hr.out]; rfl, drawn_more (drawn_more Hw.out)⟩
      · obtain rfl : k = 0 := by omega
        have hn : ord n m = 0 := by
          have h := hd.out
          rw [List.drop_zero, List.drop_zero] at h
          rw [← Hv0.out, ← Hv1.out, h]; exact ord_eq _
        have Hn := hid hn
        clear hn a4 b4 k1 k2 hd
        go_wp2
        go_ret
        exact ⟨by rw [Hn.out]; rfl, Hw.out⟩
  · have hb : ((l0.length : Int) != (l1.length : Int)) = true := bne_iff_ne.2 (by omega)
    rcases Nat.lt_or_ge l0.length l1.length with h | h
    · have Hn : Hid (ord n m = -1) := ord_lt (by have := k1 h; omega)
      clear a4 b4 k1 k2
      go_enter Tryz.func80, Tryz.ntmps80
      go_wp2
      go_ret
      exact ⟨by rw [Hn.out]; rfl, 0, rfl⟩
    · have h' : ¬ l0.length < l1.length := by omega
      have Hn : Hid (ord n m = 1) := ord_gt (by have := k2 (by omega); omega)
      clear a4 b4 k1 k2
      go_enter Tryz.func80, Tryz.ntmps80
      go_wp2
      go_ret
      exact ⟨by rw [Hn.out]; rfl, 0, rfl⟩

/-- elenchusref01.order -/
theorem order_any (v0 v1 : Value) (l0 l1 : List Nat) (w : World) (h0 : At w .u64 v0 l0) (h1 : At w .u64 v1 l1) (s0 : Small W l0) (s1 : Small W l1) (c0 : l0.length ≤ 1099511627776) (c1 : l1.length ≤ 1099511627776) :
    Calls Tryz.prog 63 #[v0, v1] w (RNum .i64 (ord (val W l0) (val W l1)) w) := by
  have g0 := Digits_any v0 l0 w h0 s0 (by omega)
  have g1 : ∀ W', Below w.heap.size w W' → Calls Tryz.prog 61 #[v1] W' (RAt .i64 (dig D (val W l1)) W') := fun W' hb => Digits_any v1 l1 W' (h1.below hb) s1 (by omega)
  have G0 := hid g0; have G1 := hid g1
  obtain ⟨r, hr⟩ : ∃ r, r = ord (val W l0) (val W l1) := ⟨_, rfl⟩
  rw [← hr]
  have Hr := hid hr
  clear hr g0 g1
  go_enter Tryz.func63, Tryz.ntmps63
  go_wp2_with fail
  refine G0.out.mono ?_
  rintro e w1 ⟨v2, rfl, ha2, hb1⟩
  go_wp2_with fail
  refine (G1.out _ hb1).mono ?_
  rintro e w2 ⟨v3, rfl, ha3, hb2⟩
  have ha2' := ha2.below hb2
  go_wp2_with fail
  refine (rcompare_any v2 v3 _ _ w2 ha2' ha3).mono ?_
  rintro e w3 ⟨rfl, k, rfl⟩
  go_wp2_with fail
  go_ret
  exact ⟨by rw [Hr.out]; rfl, below_drewN (hb1.trans (hb2.mono hb1.size)) _⟩
end Go.Proofs.YtnfohbpgnbfmeaaGreatDoor
/- elenchusref01's digit functions, said of numbers. -/
namespace Go.Proofs.YtnfohbpgnbfmeaaGreatDoor
open Go.RowKit Big
theorem rplusN_any (v0 v1 : Value) (x y : Nat) (w : World) (h0 : At w .i64 v0 (dig D x)) (h1 : At w .i64 v1 (dig D y)) (k0 : sz D x ≤ 4398046511104) (k1 : sz D y ≤ 4398046511104) :
    Calls Tryz.prog 62 #[v0, v1] w (RAt .i64 (dig D (x + y)) w) := by
  have := rplus_any v0 v1 _ _ w h0 h1 (small_dig D2 _) (small_dig D2 _) k0 k1
  rwa [val_dig D2, val_dig D2] at this
theorem rlessN_any (v0 v1 : Value) (x y : Nat) (w : World) (h0 : At w .i64 v0 (dig D x)) (h1 : At w .i64 v1 (dig D y)) (k0 : sz D x ≤ 4398046511104) (hyx : y ≤ x) :
    Calls Tryz.prog 64 #[v0, v1] w (RAt .i64 (dig D (x - y)) w) := by
  have := rless_any v0 v1 _ _ w h0 h1 (small_dig D2 _) (small_dig D2 _) k0 (sz_mono D2 hyx) (by rw [val_dig D2, val_dig D2]; exact hyx)
  rwa [val_dig D2, val_dig D2] at this
theorem FromN_any (v : Value) (x : Nat) (w : World) (h : At w .i64 v (dig D x)) (k : sz D x ≤ 8796093022208) :
    Calls Tryz.prog 60 #[v] w (RAt .u64 (dig W x) w) := by
  have := From_any v _ w h (small_dig D2 _) k
  rwa [val_dig D2] at this
theorem WholeN_any (neg : Bool) (v : Value) (x : Nat) (w : World) (h : At w .u64 v (dig W x)) (k : sz W x ≤ 2199023255552) :
    Calls Tryz.prog 40 #[.bool neg, v] w (RInt (sg neg x) w) := by
  have := Whole_any neg v _ w h (small_dig W2 _) k
  rwa [val_dig W2] at this
end Go.Proofs.YtnfohbpgnbfmeaaGreatDoor
/- whole.Cmp. -/
namespace Go.Proofs.YtnfohbpgnbfmeaaGreatDoor
open Go.RowKit Big

end Go.Proofs.YtnfohbpgnbfmeaaGreatDoor
/- whole.Add, Sub. -/
namespace Go.Proofs.YtnfohbpgnbfmeaaGreatDoor
open Go.RowKit Big

theorem sg_add_same (n : Bool) (x y : Nat) : sg n (x + y) = sg n x + sg n y := by unfold sg; cases n <;> simp <;> omega
theorem sg_add_lt {n m : Bool} {x y : Nat} (h : n ≠ m) (hxy : x < y) : sg m (y - x) = sg n x + sg m y := by unfold sg; cases n <;> cases m <;> simp at h ⊢ <;> omega
theorem sg_add_ge {n m : Bool} {x y : Nat} (h : n ≠ m) (hxy : ¬ x < y) : sg n (x - y) = sg n x + sg m y := by unfold sg; cases n <;> cases m <;> simp at h ⊢ <;> omega

set_option maxHeartbeats 1600000 in
theorem Add_any (v0 v1 : Value) (a b : Int) (w : World) (h0 : RawAt w v0 a) (h1 : RawAt w v1 b) : Calls Tryz.prog 68 #[v0, v1] w (RInt (a + b) w) := by
  obtain ⟨n0, s0, l0, rfl, a0, b0, c0, rfl⟩ := h0
  obtain ⟨n1, s1, l1, rfl, a1, b1, c1, rfl⟩ := h1
  have t0 : ∀ W : World, At W .u64 s0 l0 → Calls Tryz.prog 46 #[s0] W (fun e w' => e = .returned (cutTo s0 (strip l0).length) ∧ w' = W) := fun W h => trim_val s0 l0 W h
  have t1 : ∀ W : World, At W .u64 s1 l1 → Calls Tryz.prog 46 #[s1] W (fun e w' => e = .returned (cutTo s1 (strip l1).length) ∧ w' = W) := fun W h => trim_val s1 l1 W h
  have T0 := hid t0; have T1 := hid t1; clear t0 t1
  have d0 := hid (strip_dig W2 b0)
  have d1 := hid (strip_dig W2 b1)
  have m0 : sz W (val W l0) ≤ 1099511627776 := Nat.le_trans (sz_val W2 b0) c0
  have m1 : sz W (val W l1) ≤ 1099511627776 := Nat.le_trans (sz_val W2 b1) c1
  obtain ⟨r, hr⟩ : ∃ r, r = sg n0 (val W l0) + sg n1 (val W l1) := ⟨_, rfl⟩
  rw [← hr]
  have Hr := hid hr; clear hr
  go_enter Tryz.func68, Tryz.ntmps68
  go_wp2_with fail
  go_quiet ((first
    | (go_at_call_of 46 (s0); exact Calls.quiet_of_same (T0.out _ (by repeat (first | exact a0 | apply At.drewN | apply At.drew | apply At.alloc))))
    | (go_at_call_of 46 (s1); exact Calls.quiet_of_same (T1.out _ (by repeat (first | exact a1 | apply At.drewN | apply At.drew | apply At.alloc))))))
  generalize hW : World.drewN (World.alloc (World.alloc (World.alloc w _) _) _) _ = W3
  have bw : Below w.heap.size w W3 := by rw [← hW]; exact below_drewN (((below1 _ _).alloc (by simp) _).alloc (by simp; omega) _) _
  have hp : Pair W3 (w.heap.size + 1 + 1) 35 := by rw [← hW]; exact Pair.new2 ..
  obtain ⟨c00, c01, c10, c11, -⟩ : Two W3 w.heap.size (.bool n0) s0 (.bool n1) s1 := by rw [← hW]; exact (Two.new w _ _ _ _ _).below (below_drewN (below1 _ _) _)
  have z3 : w.heap.size + 3 ≤ W3.heap.size := by rw [← hW]; simp
  have A0 : At W3 .u64 (cutTo s0 (strip l0).length) (dig W (val W l0)) := by have := (a0.below bw).strip; rwa [d0.out] at this ⊢
  have A1 : At W3 .u64 (cutTo s1 (strip l1).length) (dig W (val W l1)) := by have := (a1.below bw).strip; rwa [d1.out] at this ⊢
  have bw' := hid bw
  clear hW bw c01 c11 T0 T1 a0 a1
  generalize cutTo s0 (strip l0).length = u0 at *
  generalize cutTo s1 (strip l1).length = u1 at *
  generalize val W l0 = x at *
  generalize val W l1 = y at *
  clear d0 d1 b0 b1 c0 c1
  by_cases hn : n0 = n1
  · subst hn
    have Hs : Hid (sg n0 (x + y) = r) := by unfold Hid; rw [sg_add_same, Hr.out]
    go_wp2
    go_region_held3 (fun w' => w'.cell? ⟨w.heap.size, 0, none⟩ = some (.bool n0) ∧ Pair w' (w.heap.size + 1 + 1) 35)
      (first | (go_split_ands; (try dsimp only); (repeat' apply And.intro) <;> first | assumption | exact Pair.drew ‹_› | exact Pair.below ‹_› hb9 | exact Pair.below ‹_› hb8 | exact Pair.below ‹_› hb7 | exact Pair.below ‹_› hb6 | exact Pair.below ‹_› hb5 | exact Pair.below ‹_› hb4 | exact Pair.below ‹_› hb3 | exact Pair.below ‹_› hb2 | exact Pair.below ‹_› hb1 | exact (hb9.cell (by first | omega | (simp; omega) | (simp; done))).trans ‹_› | exact (hb8.cell (by first | omega | (simp; omega) | (simp; done))).trans ‹_› | exact (hb7.cell (by first | omega | (simp; omega) | (simp; done))).trans ‹_› | exact (hb6.cell (by first | omega | (simp; omega) | (simp; done))).trans ‹_› | exact (hb5.cell (by first | omega | (simp; omega) | (simp; done))).trans ‹_› | exact (hb4.cell (by first | omega | (simp; omega) | (simp; done))).trans ‹_› | exact (hb3.cell (by first | omega | (simp; omega) | (simp; done))).trans ‹_› | exact (hb2.cell (by first | omega | (simp; omega) | (simp; done))).trans ‹_› | exact (hb1.cell (by first | omega | (simp; omega) | (simp; done))).trans ‹_› | exact Pair.set1 (Pair.set0 ‹_› _) _ _ _ | exact (cell_stored _ (by first | (dsimp only; omega) | (simp; done) | (simp; omega)) _ _).trans ‹_› | exact Pair.drew (Pair.below ‹_› (below1 _ _)) | exact Pair.below ‹_› (below1 _ _) | exact Pair.far ‹_› (by omega) hb1 | exact Pair.new .. | exact Pair.new1 .. | exact Pair.new2 .. | (go_keep; done)) | (go_keep; done))
      (first
        | (go_at_call 82; refine (plus_any u0 u1 x y _ (by exact A0) (by exact A1) m0 m1).mono ?_; rintro e w1 ⟨v1, rfl, ho1, hb1⟩; have hz1 : w.heap.size + 3 ≤ w1.heap.size := (by have := hb1.size; simp at this; omega))
        | (go_at_call 72; refine (told_any n0 _ _ _ ho1.at).mono ?_; rintro e w2 ⟨v2, rfl, hi2, hb2⟩; obtain ⟨p2, n2, c2, rfl, hi2⟩ := hi2.shape; have hpr := Pair.below (by go_split_ands; assumption) hb2; obtain ⟨_, _, q0, q1, q2, q3⟩ := hpr.cells))
    go_wp2
    exact bodyPost_ret (v := .agg #[.bool (decide (sg n0 (x + y) < 0)), .slice p2 n2 c2]) (by simp [results, Tryz.results68, go_sem, q0, q1]) rfl
      ⟨_, rfl, by rw [← Hs.out]; exact hi2.stored hpr _ _ _ _, Below.stored ((bw'.out.drew.trans (hb1.mono (B' := w.heap.size) (by simp; omega))).trans (hb2.mono (B' := w.heap.size) (by omega))) (by omega) _ _⟩
  · have hb : (n0 == n1) = false := beq_eq_false_iff_ne.2 hn
    by_cases hxy : x < y
    · have Hs : Hid (sg n1 (y - x) = r) := by unfold Hid; rw [sg_add_lt hn hxy, Hr.out]
      have ho : ord (x : Int) y = -1 := ord_lt (by omega)
      have Hc := hid (compare_any u0 u1 x y W3 A0 A1)
      rw [ho] at Hc
      clear ho
      go_wp2_with (go_at_call 83; refine Hc.out.mono ?_; rintro e w' ⟨rfl, k, rfl⟩)
      go_region_held3 (fun w' => w'.cell? ⟨w.heap.size + 1, 0, none⟩ = some (.bool n1) ∧ Pair w' (w.heap.size + 1 + 1) 35)
        (first | (go_split_ands; (try dsimp only); (repeat' apply And.intro) <;> first | assumption | exact Pair.drew ‹_› | exact Pair.below ‹_› hb9 | exact Pair.below ‹_› hb8 | exact Pair.below ‹_› hb7 | exact Pair.below ‹_› hb6 | exact Pair.below ‹_› hb5 | exact Pair.below ‹_› hb4 | exact Pair.below ‹_› hb3 | exact Pair.below ‹_› hb2 | exact Pair.below ‹_› hb1 | exact (hb9.cell (by first | omega | (simp; omega) | (simp; done))).trans ‹_› | exact (hb8.cell (by first | omega | (simp; omega) | (simp; done))).trans ‹_› | exact (hb7.cell (by first | omega | (simp; omega) | (simp; done))).trans ‹_› | exact (hb6.cell (by first | omega | (simp; omega) | (simp; done))).trans ‹_› | exact (hb5.cell (by first | omega | (simp; omega) | (simp; done))).trans ‹_› | exact (hb4.cell (by first | omega | (simp; omega) | (simp; done))).trans ‹_› | exact (hb3.cell (by first | omega | (simp; omega) | (simp; done))).trans ‹_› | exact (hb2.cell (by first | omega | (simp; omega) | (simp; done))).trans ‹_› | exact (hb1.cell (by first | omega | (simp; omega) | (simp; done))).trans ‹_› | exact Pair.set1 (Pair.set0 ‹_› _) _ _ _ | exact (cell_stored _ (by first | (dsimp only; omega) | (simp; done) | (simp; omega)) _ _).trans ‹_› | exact Pair.drew (Pair.below ‹_› (below1 _ _)) | exact Pair.below ‹_› (below1 _ _) | exact Pair.far ‹_› (by omega) hb1 | exact Pair.new .. | exact Pair.new1 .. | exact Pair.new2 .. | (go_keep; done)) | (go_keep; done))
        (first
          | (go_at_call 84; refine (minus_any u1 u0 y x _ (by exact A1) (by exact A0) (by omega) m1).mono ?_; rintro e w1 ⟨v1, rfl, ho1, hb1⟩; have hz1 : w.heap.size + 3 ≤ w1.heap.size := (by have := hb1.size; simp at this; omega))
          | (go_at_call 72; refine (told_any n1 _ _ _ ho1).mono ?_; rintro e w2 ⟨v2, rfl, hi2, hb2⟩; obtain ⟨p2, n2, c2, rfl, hi2⟩ := hi2.shape; have hpr := Pair.below (by go_split_ands; assumption) hb2; obtain ⟨_, _, q0, q1, q2, q3⟩ := hpr.cells))
      go_wp2
      exact bodyPost_ret (v := .agg #[.bool (decide (sg n1 (y - x) < 0)), .slice p2 n2 c2]) (by simp [results, Tryz.results68, go_sem, q0, q1]) rfl
        ⟨_, rfl, by rw [← Hs.out]; exact hi2.stored hpr _ _ _ _, Below.stored (((below_drewN bw'.out k).drew.trans (hb1.mono (B' := w.heap.size) (by simp; omega))).trans (hb2.mono (B' := w.heap.size) (by omega))) (by omega) _ _⟩
    · have Hs : Hid (sg n0 (x - y) = r) := by unfold Hid; rw [sg_add_ge hn hxy, Hr.out]
      have ho : ∃ o, o = ord (x : Int) y ∧ ¬ o < 0 := ⟨_, rfl, by unfold ord; (repeat' split) <;> omega⟩
      obtain ⟨o, ho, hneg⟩ := ho
      have Hc := hid (compare_any u0 u1 x y W3 A0 A1)
      rw [← ho] at Hc
      clear ho
      go_wp2_with (go_at_call 83; refine Hc.out.mono ?_; rintro e w' ⟨rfl, k, rfl⟩)
      go_region_held3 (fun w' => w'.cell? ⟨w.heap.size, 0, none⟩ = some (.bool n0) ∧ Pair w' (w.heap.size + 1 + 1) 35)
        (first | (go_split_ands; (try dsimp only); (repeat' apply And.intro) <;> first | assumption | exact Pair.drew ‹_› | exact Pair.below ‹_› hb9 | exact Pair.below ‹_› hb8 | exact Pair.below ‹_› hb7 | exact Pair.below ‹_› hb6 | exact Pair.below ‹_› hb5 | exact Pair.below ‹_› hb4 | exact Pair.below ‹_› hb3 | exact Pair.below ‹_› hb2 | exact Pair.below ‹_› hb1 | exact (hb9.cell (by first | omega | (simp; omega) | (simp; done))).trans ‹_› | exact (hb8.cell (by first | omega | (simp; omega) | (simp; done))).trans ‹_› | exact (hb7.cell (by first | omega | (simp; omega) | (simp; done))).trans ‹_› | exact (hb6.cell (by first | omega | (simp; omega) | (simp; done))).trans ‹_› | exact (hb5.cell (by first | omega | (simp; omega) | (simp; done))).trans ‹_› | exact (hb4.cell (by first | omega | (simp; omega) | (simp; done))).trans ‹_› | exact (hb3.cell (by first | omega | (simp; omega) | (simp; done))).trans ‹_› | exact (hb2.cell (by first | omega | (simp; omega) | (simp; done))).trans ‹_› | exact (hb1.cell (by first | omega | (simp; omega) | (simp; done))).trans ‹_› | exact Pair.set1 (Pair.set0 ‹_› _) _ _ _ | exact (cell_stored _ (by first | (dsimp only; omega) | (simp; done) | (simp; omega)) _ _).trans ‹_› | exact Pair.drew (Pair.below ‹_› (below1 _ _)) | exact Pair.below ‹_› (below1 _ _) | exact Pair.far ‹_› (by omega) hb1 | exact Pair.new .. | exact Pair.new1 .. | exact Pair.new2 .. | (go_keep; done)) | (go_keep; done))
        (first
          | (go_at_call 84; refine (minus_any u0 u1 x y _ (by exact A0) (by exact A1) (by omega) m0).mono ?_; rintro e w1 ⟨v1, rfl, ho1, hb1⟩; have hz1 : w.heap.size + 3 ≤ w1.heap.size := (by have := hb1.size; simp at this; omega))
          | (go_at_call 72; refine (told_any n0 _ _ _ ho1).mono ?_; rintro e w2 ⟨v2, rfl, hi2, hb2⟩; obtain ⟨p2, n2, c2, rfl, hi2⟩ := hi2.shape; have hpr := Pair.below (by go_split_ands; assumption) hb2; obtain ⟨_, _, q0, q1, q2, q3⟩ := hpr.cells))
      go_wp2
      exact bodyPost_ret (v := .agg #[.bool (decide (sg n0 (x - y) < 0)), .slice p2 n2 c2]) (by simp [results, Tryz.results68, go_sem, q0, q1]) rfl
        ⟨_, rfl, by rw [← Hs.out]; exact hi2.stored hpr _ _ _ _, Below.stored (((below_drewN bw'.out k).drew.trans (hb1.mono (B' := w.heap.size) (by simp; omega))).trans (hb2.mono (B' := w.heap.size) (by omega))) (by omega) _ _⟩
end Go.Proofs.YtnfohbpgnbfmeaaGreatDoor
/- elenchusref01.Neg, Add. -/
namespace Go.Proofs.YtnfohbpgnbfmeaaGreatDoor
open Go.RowKit Big

set_option maxRecDepth 100000 in
set_option maxHeartbeats 3200000 in
theorem RAdd_any (v0 v1 : Value) (a b : Int) (w : World) (h0 : RawAt w v0 a) (h1 : RawAt w v1 b) : Calls Tryz.prog 41 #[v0, v1] w (RInt (a + b) w) := by
  obtain ⟨n0, s0, l0, rfl, a0, b0, c0, rfl⟩ := h0
  obtain ⟨n1, s1, l1, rfl, a1, b1, c1, rfl⟩ := h1
  have g0 : ∀ W', Below w.heap.size w W' → Calls Tryz.prog 61 #[s0] W' (RAt .i64 (dig D (val W l0)) W') := fun W' hb => Digits_any s0 l0 W' (a0.below hb) b0 (by omega)
  have g1 : ∀ W', Below w.heap.size w W' → Calls Tryz.prog 61 #[s1] W' (RAt .i64 (dig D (val W l1)) W') := fun W' hb => Digits_any s1 l1 W' (a1.below hb) b1 (by omega)
  have go : ∀ W', Below w.heap.size w W' → Calls Tryz.prog 63 #[s0, s1] W' (RNum .i64 (ord (val W l0) (val W l1)) W') := fun W' hb => order_any s0 s1 l0 l1 W' (a0.below hb) (a1.below hb) b0 b1 c0 c1
  have m0 : sz W (val W l0) ≤ 1099511627776 := Nat.le_trans (sz_val W2 b0) c0
  have m1 : sz W (val W l1) ≤ 1099511627776 := Nat.le_trans (sz_val W2 b1) c1
  have G0 := hid g0; have G1 := hid g1; have GO := hid go
  obtain ⟨r, hr⟩ : ∃ r, r = sg n0 (val W l0) + sg n1 (val W l1) := ⟨_, rfl⟩
  rw [← hr]
  have Hr := hid hr
  clear hr g0 g1 go a0 a1 b0 b1 c0 c1
  generalize val W l0 = x at *
  generalize val W l1 = y at *
  have k0 : sz D x ≤ 4398046511104 := Nat.le_trans (sz4 x) (by omega)
  have k1 : sz D y ≤ 4398046511104 := Nat.le_trans (sz4 y) (by omega)
  by_cases hn : n0 = n1
  · subst hn
    have Hs : Hid (sg n0 (x + y) = r) := by unfold Hid; rw [sg_add_same, Hr.out]
    have mw : sz W (x + y) ≤ 2199023255552 := Nat.le_trans (sz_add W2 m0 m1) (by omega)
    have ks : sz D (x + y) ≤ 8796093022208 := Nat.le_trans (sz4 _) (by omega)
    go_enter Tryz.func41, Tryz.ntmps41
    go_wp2_with fail
    generalize hW : World.alloc (World.alloc (World.alloc w _) _) _ = W3
    have bw : Below w.heap.size w W3 := by rw [← hW]; exact ((below1 _ _).alloc (by simp) _).alloc (by simp; omega) _
    have hp : Pair W3 (w.heap.size + 1 + 1) 35 := by rw [← hW]; exact Pair.new2 ..
    obtain ⟨c00, c01, c10, c11, -⟩ : Two W3 w.heap.size (.bool n0) s0 (.bool n0) s1 := by rw [← hW]; exact (Two.new w _ _ _ _ _).below (below1 _ _)
    have z3 : w.heap.size + 3 ≤ W3.heap.size := by rw [← hW]; simp
    have bw' := hid bw
    clear hW bw
    go_region_held3 (fun w' => w'.cell? ⟨w.heap.size, 0, none⟩ = some (.bool n0) ∧ w'.cell? ⟨w.heap.size, 1, none⟩ = some s0 ∧ w'.cell? ⟨w.heap.size + 1, 0, none⟩ = some (.bool n0) ∧ w'.cell? ⟨w.heap.size + 1, 1, none⟩ = some s1 ∧ Pair w' (w.heap.size + 1 + 1) 35)
      (first | (go_split_ands; (try dsimp only); (repeat' apply And.intro) <;> first | assumption | exact Pair.drew ‹_› | exact Pair.below ‹_› hb9 | exact Pair.below ‹_› hb8 | exact Pair.below ‹_› hb7 | exact Pair.below ‹_› hb6 | exact Pair.below ‹_› hb5 | exact Pair.below ‹_› hb4 | exact Pair.below ‹_› hb3 | exact Pair.below ‹_› hb2 | exact Pair.below ‹_› hb1 | exact (hb9.cell (by first | omega | (simp; omega) | (simp; done))).trans ‹_› | exact (hb8.cell (by first | omega | (simp; omega) | (simp; done))).trans ‹_› | exact (hb7.cell (by first | omega | (simp; omega) | (simp; done))).trans ‹_› | exact (hb6.cell (by first | omega | (simp; omega) | (simp; done))).trans ‹_› | exact (hb5.cell (by first | omega | (simp; omega) | (simp; done))).trans ‹_› | exact (hb4.cell (by first | omega | (simp; omega) | (simp; done))).trans ‹_› | exact (hb3.cell (by first | omega | (simp; omega) | (simp; done))).trans ‹_› | exact (hb2.cell (by first | omega | (simp; omega) | (simp; done))).trans ‹_› | exact (hb1.cell (by first | omega | (simp; omega) | (simp; done))).trans ‹_› | exact Pair.set1 (Pair.set0 ‹_› _) _ _ _ | exact (cell_stored _ (by first | (dsimp only; omega) | (simp; done) | (simp; omega)) _ _).trans ‹_› | exact Pair.drew (Pair.below ‹_› (below1 _ _)) | exact Pair.below ‹_› (below1 _ _) | exact Pair.far ‹_› (by omega) hb1 | exact Pair.new .. | exact Pair.new1 .. | exact Pair.new2 .. | (go_keep; done)) | (go_keep; done))
      (first
        | (go_at_call_of 61 (s0); refine (G0.out _ bw'.out.drew).mono ?_; rintro e w1 ⟨v1, rfl, d1, hb1⟩; have hz1 : w.heap.size + 3 ≤ w1.heap.size := (by have := hb1.size; simp at this; omega))
        | (go_at_call_of 61 (s1); refine (G1.out _ (bw'.out.drew.trans (hb1.mono (B' := w.heap.size) (by simp; omega)))).mono ?_; rintro e w2 ⟨v2, rfl, d2, hb2⟩; have d1' := d1.below hb2; have hz2 := hb2.size)
        | (go_at_call 62; refine (rplusN_any v1 v2 x y _ d1' d2 k0 k1).mono ?_; rintro e w3 ⟨v3, rfl, d3, hb3⟩; have hz3 := hb3.size)
        | (go_at_call 60; refine (FromN_any v3 _ _ d3 ks).mono ?_; rintro e w4 ⟨v4, rfl, d4, hb4⟩; have hz4 := hb4.size)
        | (go_at_call 40; refine (WholeN_any n0 v4 _ _ d4 mw).mono ?_; rintro e w5 ⟨v5, rfl, hi5, hb5⟩; obtain ⟨p5, n5, c5, rfl, hi5⟩ := hi5.shape; have hpr := Pair.below (by go_split_ands; assumption) hb5; obtain ⟨_, _, q0, q1, q2, q3⟩ := hpr.cells))
    go_wp2
    exact bodyPost_ret (v := .agg #[.bool (decide (sg n0 (x + y) < 0)), .slice p5 n5 c5]) (by simp [results, Tryz.results41, go_sem, q0, q1]) rfl
      ⟨_, rfl, by rw [← Hs.out]; exact hi5.stored hpr _ _ _ _, Below.stored (((((bw'.out.drew.trans (hb1.mono (B' := w.heap.size) (by simp; omega))).trans (hb2.mono (B' := w.heap.size) (by omega))).trans (hb3.mono (B' := w.heap.size) (by omega))).trans (hb4.mono (B' := w.heap.size) (by omega))).trans (hb5.mono (B' := w.heap.size) (by omega))) (by omega) _ _⟩
  · have hb : (n0 == n1) = false := beq_eq_false_iff_ne.2 hn
    go_enter Tryz.func41, Tryz.ntmps41
    go_wp2_with fail
    generalize hW : World.alloc (World.alloc (World.alloc w _) _) _ = W3
    have bw : Below w.heap.size w W3 := by rw [← hW]; exact ((below1 _ _).alloc (by simp) _).alloc (by simp; omega) _
    have hp : Pair W3 (w.heap.size + 1 + 1) 35 := by rw [← hW]; exact Pair.new2 ..
    obtain ⟨c00, c01, c10, c11, -⟩ : Two W3 w.heap.size (.bool n0) s0 (.bool n1) s1 := by rw [← hW]; exact (Two.new w _ _ _ _ _).below (below1 _ _)
    have z3 : w.heap.size + 3 ≤ W3.heap.size := by rw [← hW]; simp
    have bw' := hid bw
    clear hW bw
    by_cases hxy : x < y
    · have Hs : Hid (sg n1 (y - x) = r) := by unfold Hid; rw [sg_add_lt hn hxy, Hr.out]
      have mw : sz W (y - x) ≤ 2199023255552 := Nat.le_trans (sz_mono W2 (by omega)) (Nat.le_trans m1 (by omega))
      have ks : sz D (y - x) ≤ 8796093022208 := Nat.le_trans (sz4 _) (by omega)
      have hc := GO.out W3 bw'.out
      rw [ord_lt (by omega)] at hc
      have Hc := hid hc
      clear hc
      refine Hc.out.mono ?_
      rintro e W4 ⟨rfl, hb0⟩
      have hz0 := hb0.size
      have e00 := (hb0.cell (p := ⟨w.heap.size, 0, none⟩) (by show w.heap.size < _; omega)).trans c00
      have e01 := (hb0.cell (p := ⟨w.heap.size, 1, none⟩) (by show w.heap.size < _; omega)).trans c01
      have e10 := (hb0.cell (p := ⟨w.heap.size + 1, 0, none⟩) (by show w.heap.size + 1 < _; omega)).trans c10
      have e11 := (hb0.cell (p := ⟨w.heap.size + 1, 1, none⟩) (by show w.heap.size + 1 < _; omega)).trans c11
      have hp4 := hp.below hb0
      have bw4 := hid (bw'.out.trans (hb0.mono (B' := w.heap.size) (by omega)))
      clear c00 c01 c10 c11 hp hb0
      go_wp2_with fail
      go_region_held3 (fun w' => w'.cell? ⟨w.heap.size, 0, none⟩ = some (.bool n0) ∧ w'.cell? ⟨w.heap.size, 1, none⟩ = some s0 ∧ w'.cell? ⟨w.heap.size + 1, 0, none⟩ = some (.bool n1) ∧ w'.cell? ⟨w.heap.size + 1, 1, none⟩ = some s1 ∧ Pair w' (w.heap.size + 1 + 1) 35)
        (first | (go_split_ands; (try dsimp only); (repeat' apply And.intro) <;> first | assumption | exact Pair.drew ‹_› | exact Pair.below ‹_› hb9 | exact Pair.below ‹_› hb8 | exact Pair.below ‹_› hb7 | exact Pair.below ‹_› hb6 | exact Pair.below ‹_› hb5 | exact Pair.below ‹_› hb4 | exact Pair.below ‹_› hb3 | exact Pair.below ‹_› hb2 | exact Pair.below ‹_› hb1 | exact (hb9.cell (by first | omega | (simp; omega) | (simp; done))).trans ‹_› | exact (hb8.cell (by first | omega | (simp; omega) | (simp; done))).trans ‹_› | exact (hb7.cell (by first | omega | (simp; omega) | (simp; done))).trans ‹_› | exact (hb6.cell (by first | omega | (simp; omega) | (simp; done))).trans ‹_› | exact (hb5.cell (by first | omega | (simp; omega) | (simp; done))).trans ‹_› | exact (hb4.cell (by first | omega | (simp; omega) | (simp; done))).trans ‹_› | exact (hb3.cell (by first | omega | (simp; omega) | (simp; done))).trans ‹_› | exact (hb2.cell (by first | omega | (simp; omega) | (simp; done))).trans ‹_› | exact (hb1.cell (by first | omega | (simp; omega) | (simp; done))).trans ‹_› | exact Pair.set1 (Pair.set0 ‹_› _) _ _ _ | exact (cell_stored _ (by first | (dsimp only; omega) | (simp; done) | (simp; omega)) _ _).trans ‹_› | exact Pair.drew (Pair.below ‹_› (below1 _ _)) | exact Pair.below ‹_› (below1 _ _) | exact Pair.far ‹_› (by omega) hb1 | exact Pair.new .. | exact Pair.new1 .. | exact Pair.new2 .. | (go_keep; done)) | (go_keep; done))
        (first
          | (go_at_call_of 61 (s1); refine (G1.out _ bw4.out.drew).mono ?_; rintro e w1 ⟨v1, rfl, d1, hb1⟩; have hz1 : w.heap.size + 3 ≤ w1.heap.size := (by have := hb1.size; simp at this; omega))
          | (go_at_call_of 61 (s0); refine (G0.out _ (bw4.out.drew.trans (hb1.mono (B' := w.heap.size) (by simp; omega)))).mono ?_; rintro e w2 ⟨v2, rfl, d2, hb2⟩; have d1' := d1.below hb2; have hz2 := hb2.size)
          | (go_at_call 64; refine (rlessN_any v1 v2 y x _ d1' d2 k1 (by omega)).mono ?_; rintro e w3 ⟨v3, rfl, d3, hb3⟩; have hz3 := hb3.size)
          | (go_at_call 60; refine (FromN_any v3 _ _ d3 ks).mono ?_; rintro e w4 ⟨v4, rfl, d4, hb4⟩; have hz4 := hb4.size)
          | (go_at_call 40; refine (WholeN_any n1 v4 _ _ d4 mw).mono ?_; rintro e w5 ⟨v5, rfl, hi5, hb5⟩; obtain ⟨p5, n5, c5, rfl, hi5⟩ := hi5.shape; have hpr := Pair.below (by go_split_ands; assumption) hb5; obtain ⟨_, _, q0, q1, q2, q3⟩ := hpr.cells))
      go_wp2
      exact bodyPost_ret (v := .agg #[.bool (decide (sg n1 (y - x) < 0)), .slice p5 n5 c5]) (by simp [results, Tryz.results41, go_sem, q0, q1]) rfl
        ⟨_, rfl, by rw [← Hs.out]; exact hi5.stored hpr _ _ _ _, Below.stored (((((bw4.out.drew.trans (hb1.mono (B' := w.heap.size) (by simp; omega))).trans (hb2.mono (B' := w.heap.size) (by omega))).trans (hb3.mono (B' := w.heap.size) (by omega))).trans (hb4.mono (B' := w.heap.size) (by omega))).trans (hb5.mono (B' := w.heap.size) (by omega))) (by omega) _ _⟩
    · have Hs : Hid (sg n0 (x - y) = r) := by unfold Hid; rw [sg_add_ge hn hxy, Hr.out]
      have mw : sz W (x - y) ≤ 2199023255552 := Nat.le_trans (sz_mono W2 (by omega)) (Nat.le_trans m0 (by omega))
      have ks : sz D (x - y) ≤ 8796093022208 := Nat.le_trans (sz4 _) (by omega)
      have hc := GO.out W3 bw'.out
      obtain ⟨o, ho, hneg⟩ : ∃ o, o = ord (x : Int) y ∧ 0 ≤ o := ⟨_, rfl, by unfold ord; (repeat' split) <;> omega⟩
      rw [← ho] at hc
      have Hc := hid hc
      clear hc ho
      refine Hc.out.mono ?_
      rintro e W4 ⟨rfl, hb0⟩
      have hz0 := hb0.size
      have e00 := (hb0.cell (p := ⟨w.heap.size, 0, none⟩) (by show w.heap.size < _; omega)).trans c00
      have e01 := (hb0.cell (p := ⟨w.heap.size, 1, none⟩) (by show w.heap.size < _; omega)).trans c01
      have e10 := (hb0.cell (p := ⟨w.heap.size + 1, 0, none⟩) (by show w.heap.size + 1 < _; omega)).trans c10
      have e11 := (hb0.cell (p := ⟨w.heap.size + 1, 1, none⟩) (by show w.heap.size + 1 < _; omega)).trans c11
      have hp4 := hp.below hb0
      have bw4 := hid (bw'.out.trans (hb0.mono (B' := w.heap.size) (by omega)))
      clear c00 c01 c10 c11 hp hb0
      go_wp2_with fail
      go_region_held3 (fun w' => w'.cell? ⟨w.heap.size, 0, none⟩ = some (.bool n0) ∧ w'.cell? ⟨w.heap.size, 1, none⟩ = some s0 ∧ w'.cell? ⟨w.heap.size + 1, 0, none⟩ = some (.bool n1) ∧ w'.cell? ⟨w.heap.size + 1, 1, none⟩ = some s1 ∧ Pair w' (w.heap.size + 1 + 1) 35)
        (first | (go_split_ands; (try dsimp only); (repeat' apply And.intro) <;> first | assumption | exact Pair.drew ‹_› | exact Pair.below ‹_› hb9 | exact Pair.below ‹_› hb8 | exact Pair.below ‹_› hb7 | exact Pair.below ‹_› hb6 | exact Pair.below ‹_› hb5 | exact Pair.below ‹_› hb4 | exact Pair.below ‹_› hb3 | exact Pair.below ‹_› hb2 | exact Pair.below ‹_› hb1 | exact (hb9.cell (by first | omega | (simp; omega) | (simp; done))).trans ‹_› | exact (hb8.cell (by first | omega | (simp; omega) | (simp; done))).trans ‹_› | exact (hb7.cell (by first | omega | (simp; omega) | (simp; done))).trans ‹_› | exact (hb6.cell (by first | omega | (simp; omega) | (simp; done))).trans ‹_› | exact (hb5.cell (by first | omega | (simp; omega) | (simp; done))).trans ‹_› | exact (hb4.cell (by first | omega | (simp; omega) | (simp; done))).trans ‹_› | exact (hb3.cell (by first | omega | (simp; omega) | (simp; done))).trans ‹_› | exact (hb2.cell (by first | omega | (simp; omega) | (simp; done))).trans ‹_› | exact (hb1.cell (by first | omega | (simp; omega) | (simp; done))).trans ‹_› | exact Pair.set1 (Pair.set0 ‹_› _) _ _ _ | exact (cell_stored _ (by first | (dsimp only; omega) | (simp; done) | (simp; omega)) _ _).trans ‹_› | exact Pair.drew (Pair.below ‹_› (below1 _ _)) | exact Pair.below ‹_› (below1 _ _) | exact Pair.far ‹_› (by omega) hb1 | exact Pair.new .. | exact Pair.new1 .. | exact Pair.new2 .. | (go_keep; done)) | (go_keep; done))
        (first
          | (go_at_call_of 61 (s0); refine (G0.out _ bw4.out.drew).mono ?_; rintro e w1 ⟨v1, rfl, d1, hb1⟩; have hz1 : w.heap.size + 3 ≤ w1.heap.size := (by have := hb1.size; simp at this; omega))
          | (go_at_call_of 61 (s1); refine (G1.out _ (bw4.out.drew.trans (hb1.mono (B' := w.heap.size) (by simp; omega)))).mono ?_; rintro e w2 ⟨v2, rfl, d2, hb2⟩; have d1' := d1.below hb2; have hz2 := hb2.size)
          | (go_at_call 64; refine (rlessN_any v1 v2 x y _ d1' d2 k0 (by omega)).mono ?_; rintro e w3 ⟨v3, rfl, d3, hb3⟩; have hz3 := hb3.size)
          | (go_at_call 60; refine (FromN_any v3 _ _ d3 ks).mono ?_; rintro e w4 ⟨v4, rfl, d4, hb4⟩; have hz4 := hb4.size)
          | (go_at_call 40; refine (WholeN_any n0 v4 _ _ d4 mw).mono ?_; rintro e w5 ⟨v5, rfl, hi5, hb5⟩; obtain ⟨p5, n5, c5, rfl, hi5⟩ := hi5.shape; have hpr := Pair.below (by go_split_ands; assumption) hb5; obtain ⟨_, _, q0, q1, q2, q3⟩ := hpr.cells))
      go_wp2
      exact bodyPost_ret (v := .agg #[.bool (decide (sg n0 (x - y) < 0)), .slice p5 n5 c5]) (by simp [results, Tryz.results41, go_sem, q0, q1]) rfl
        ⟨_, rfl, by rw [← Hs.out]; exact hi5.stored hpr _ _ _ _, Below.stored (((((bw4.out.drew.trans (hb1.mono (B' := w.heap.size) (by simp; omega))).trans (hb2.mono (B' := w.heap.size) (by omega))).trans (hb3.mono (B' := w.heap.size) (by omega))).trans (hb4.mono (B' := w.heap.size) (by omega))).trans (hb5.mono (B' := w.heap.size) (by omega))) (by omega) _ _⟩
end Go.Proofs.YtnfohbpgnbfmeaaGreatDoor
/- elenchusref01.Neg, Sub, Sign, Cmp, Of. -/
namespace Go.Proofs.YtnfohbpgnbfmeaaGreatDoor
open Go.RowKit Big

theorem IntAt.raw {w : World} {v : Value} {z : Int} (h : IntAt w v z) (hs : sz W z.natAbs ≤ 1099511627776) : RawAt w v z := by
  obtain ⟨s, rfl, ha⟩ := h
  refine ⟨_, s, _, rfl, ha, small_dig W2 _, hs, ?_⟩
  rw [val_dig W2]
  unfold sg
  by_cases hz : z < 0 <;> simp [hz] <;> omega
theorem RawAt.sz {w : World} {v : Value} {z : Int} (h : RawAt w v z) : Big.sz W z.natAbs ≤ 1099511627776 := by
  obtain ⟨neg, s, l, rfl, ha, hs, hl, rfl⟩ := h
  rw [sg_natAbs]
  exact Nat.le_trans (sz_val W2 hs) hl

set_option maxHeartbeats 800000 in
theorem RNeg_any (v : Value) (z : Int) (w : World) (h : RawAt w v z) : Calls Tryz.prog 36 #[v] w (RInt (-z) w) := by
  obtain ⟨neg, s, l, rfl, ha, hs, hl, rfl⟩ := h
  have g : ∀ o o', Calls Tryz.prog 40 #[.bool (!neg), s] ((w.alloc o).alloc o') (RInt (-sg neg (val W l)) ((w.alloc o).alloc o')) := fun o o' => by
    have := Whole_any (!neg) s l _ ((ha.alloc o).alloc o') hs (by omega)
    rwa [show sg (!neg) (val W l) = -sg neg (val W l) by unfold sg; cases neg <;> simp] at this
  have G := hid g
  generalize -sg neg (val W l) = r at *
  clear g ha hs hl
  go_enter Tryz.func36, Tryz.ntmps36
  go_wp2_with fail
  refine (G.out _ _).mono ?_
  rintro e w2 ⟨v2, rfl, hi2, hb2⟩
  obtain ⟨p2, n2, c2, rfl, hi2⟩ := hi2.shape
  have hpr : Pair w2 (w.heap.size + 1) 35 := Pair.below (Pair.new1 ..) hb2
  obtain ⟨_, _, q0, q1, q2, q3⟩ := hpr.cells
  have bw : Below w.heap.size w w2 := ((below1 _ _).alloc (by simp) _).trans (hb2.mono (B' := w.heap.size) (by simp; omega))
  have Hi := hid hi2
  clear hb2 hi2
  go_wp2
  exact bodyPost_ret (v := .agg #[.bool (decide (r < 0)), .slice p2 n2 c2]) (by simp [results, Tryz.results36, go_sem, q0, q1]) rfl
    ⟨_, rfl, Hi.out.stored hpr _ _ _ _, Below.stored bw (by omega) _ _⟩

set_option maxHeartbeats 1600000 in
set_option maxRecDepth 100000 in
theorem RSub_any (v0 v1 : Value) (a b : Int) (w : World) (h0 : RawAt w v0 a) (h1 : RawAt w v1 b) : Calls Tryz.prog 35 #[v0, v1] w (RInt (a - b) w) := by
  have g1 : ∀ W', Below w.heap.size w W' → Calls Tryz.prog 36 #[v1] W' (RInt (-b) W') := fun W' hb => RNeg_any v1 b W' (h1.below hb)
  have g2 : ∀ W' v, Below w.heap.size w W' → IntAt W' v (-b) → Calls Tryz.prog 41 #[v0, v] W' (RInt (a - b) W') := fun W' v hb hv => by
    have := RAdd_any v0 v a (-b) W' (h0.below hb) (hv.raw (by rw [Int.natAbs_neg]; exact h1.sz))
    rwa [show a + -b = a - b by omega] at this
  have G1 := hid g1; have G2 := hid g2
  obtain ⟨n0, s0, l0, rfl, a0, -⟩ := id h0
  obtain ⟨n1, s1, l1, rfl, a1, -⟩ := id h1
  obtain ⟨p0, c0, rfl, -⟩ := a0
  obtain ⟨p1, c1, rfl, -⟩ := a1
  generalize a - b = r at *
  clear g1 g2 h0 h1
  generalize -b = nb at *
  go_enter Tryz.func35, Tryz.ntmps35
  go_wp2_with fail
  generalize hW : World.alloc (World.alloc (World.alloc w _) _) _ = W3
  have bw : Below w.heap.size w W3 := by rw [← hW]; exact ((below1 _ _).alloc (by simp) _).alloc (by simp; omega) _
  have hp : Pair W3 (w.heap.size + 1 + 1) 35 := by rw [← hW]; exact Pair.new2 ..
  obtain ⟨c00, c01, c10, c11, -⟩ : Two W3 w.heap.size (.bool n0) (.slice p0 l0.length c0) (.bool n1) (.slice p1 l1.length c1) := by rw [← hW]; exact (Two.new w _ _ _ _ _).below (below1 _ _)
  have z3 : w.heap.size + 3 ≤ W3.heap.size := by rw [← hW]; simp
  have bw' := hid bw
  clear hW bw
  go_region_held3 (fun w' => w'.cell? ⟨w.heap.size, 0, none⟩ = some (.bool n0) ∧ w'.cell? ⟨w.heap.size, 1, none⟩ = some (.slice p0 l0.length c0) ∧ w'.cell? ⟨w.heap.size + 1, 0, none⟩ = some (.bool n1) ∧ w'.cell? ⟨w.heap.size + 1, 1, none⟩ = some (.slice p1 l1.length c1) ∧ Pair w' (w.heap.size + 1 + 1) 35)
    (first | (go_split_ands; (try dsimp only); (repeat' apply And.intro) <;> first | assumption | exact Pair.drew ‹_› | exact Pair.below ‹_› hb9 | exact Pair.below ‹_› hb8 | exact Pair.below ‹_› hb7 | exact Pair.below ‹_› hb6 | exact Pair.below ‹_› hb5 | exact Pair.below ‹_› hb4 | exact Pair.below ‹_› hb3 | exact Pair.below ‹_› hb2 | exact Pair.below ‹_› hb1 | exact (hb9.cell (by first | omega | (simp; omega) | (simp; done))).trans ‹_› | exact (hb8.cell (by first | omega | (simp; omega) | (simp; done))).trans ‹_› | exact (hb7.cell (by first | omega | (simp; omega) | (simp; done))).trans ‹_› | exact (hb6.cell (by first | omega | (simp; omega) | (simp; done))).trans ‹_› | exact (hb5.cell (by first | omega | (simp; omega) | (simp; done))).trans ‹_› | exact (hb4.cell (by first | omega | (simp; omega) | (simp; done))).trans ‹_› | exact (hb3.cell (by first | omega | (simp; omega) | (simp; done))).trans ‹_› | exact (hb2.cell (by first | omega | (simp; omega) | (simp; done))).trans ‹_› | exact (hb1.cell (by first | omega | (simp; omega) | (simp; done))).trans ‹_› | exact Pair.set1 (Pair.set0 ‹_› _) _ _ _ | exact (cell_stored _ (by first | (dsimp only; omega) | (simp; done) | (simp; omega)) _ _).trans ‹_› | exact Pair.drew (Pair.below ‹_› (below1 _ _)) | exact Pair.below ‹_› (below1 _ _) | exact Pair.far ‹_› (by omega) hb1 | exact Pair.new .. | exact Pair.new1 .. | exact Pair.new2 .. | (go_keep; done)) | (go_keep; done))
    (first
      | (go_at_call 36; refine (G1.out _ bw'.out.drew).mono ?_; rintro e w1 ⟨v1, rfl, hi1, hb1⟩; have hz1 : w.heap.size + 3 ≤ w1.heap.size := (by have := hb1.size; simp at this; omega); obtain ⟨p3, n3, c3, rfl, hi1⟩ := hi1.shape)
      | (go_at_call 41; refine (G2.out _ _ (bw'.out.drew.trans (hb1.mono (B' := w.heap.size) (by simp; omega))) hi1).mono ?_; rintro e w2 ⟨v2, rfl, hi2, hb2⟩; obtain ⟨p2, n2, c2, rfl, hi2⟩ := hi2.shape; have hpr := Pair.below (by go_split_ands; assumption) hb2; obtain ⟨_, _, q0, q1, q2, q3⟩ := hpr.cells))
  go_wp2
  exact bodyPost_ret (v := .agg #[.bool (decide (r < 0)), .slice p2 n2 c2]) (by simp [results, Tryz.results35, go_sem, q0, q1]) rfl
    ⟨_, rfl, hi2.stored hpr _ _ _ _, Below.stored ((bw'.out.drew.trans (hb1.mono (B' := w.heap.size) (by simp; omega))).trans (hb2.mono (B' := w.heap.size) (by omega))) (by omega) _ _⟩
end Go.Proofs.YtnfohbpgnbfmeaaGreatDoor
/- elenchusref01.Sign, Cmp, Of. -/
namespace Go.Proofs.YtnfohbpgnbfmeaaGreatDoor
open Go.RowKit Big

set_option maxHeartbeats 800000 in
theorem RSign_any (v : Value) (z : Int) (w : World) (h : RawAt w v z) : Calls Tryz.prog 20 #[v] w (RNum .i64 z.sign w) := by
  obtain ⟨neg, s, l, rfl, ha, hs, hl, hz⟩ := h
  have g : ∀ o, Calls Tryz.prog 40 #[.bool neg, s] (w.alloc o) (RInt z (w.alloc o)) := fun o => by
    rw [hz]; exact Whole_any neg s l _ (ha.alloc o) hs (by omega)
  have G := hid g
  clear g hs hl hz
  obtain ⟨p, c, rfl, -⟩ := ha
  go_enter Tryz.func20, Tryz.ntmps20
  go_wp2_with fail
  refine (G.out _).mono ?_
  rintro e w2 ⟨v2, rfl, ⟨s2, rfl, hi2⟩, hb2⟩
  have hlen := sz_eq_zero (n := z.natAbs) W2
  unfold sz at hlen
  obtain ⟨p2, c2, rfl, -⟩ := hi2
  have hpr : Pair w2 w.heap.size 35 := Pair.below (Pair.new ..) hb2
  obtain ⟨_, _, q0, q1, q2, q3⟩ := hpr.cells
  have bw : Below w.heap.size w w2 := (below1 _ _).trans (hb2.mono (B' := w.heap.size) (by simp))
  clear hb2 hpr
  rcases Int.lt_trichotomy z 0 with hz | hz | hz
  · have hs : Hid (z.sign = -1) := Int.sign_eq_neg_one_of_neg hz
    clear hlen
    go_wp2
    go_ret
    exact ⟨by rw [hs.out]; rfl, Below.stored bw (by omega) _ _⟩
  · subst hz
    have hs : Hid ((0 : Int).sign = 0) := rfl
    have h0 : (dig W (0 : Int).natAbs).length = 0 := rfl
    rw [h0]
    clear hlen h0
    go_wp2
    go_ret
    exact ⟨by rw [hs.out]; rfl, Below.stored bw (by omega) _ _⟩
  · have hs : Hid (z.sign = 1) := Int.sign_eq_one_of_pos hz
    have hneg : ¬ z < 0 := by omega
    obtain ⟨n, hn⟩ : ∃ n, n = (dig W z.natAbs).length := ⟨_, rfl⟩
    rw [← hn] at hlen ⊢
    have hn0 : ((n : Int) == 0) = false := beq_eq_false_iff_ne.2 (by omega)
    clear hlen hn
    go_wp2
    go_ret
    exact ⟨by rw [hs.out]; rfl, Below.stored bw (by omega) _ _⟩

theorem ord_sub (a b : Int) : (a - b).sign = ord a b := by
  rcases Int.lt_trichotomy a b with h | h | h
  · rw [ord_lt h, Int.sign_eq_neg_one_of_neg (by omega)]
  · subst h; rw [ord_eq]; simp
  · rw [ord_gt h, Int.sign_eq_one_of_pos (by omega)]

theorem sz_sub (a b : Int) (ha : sz W a.natAbs ≤ 549755813888) (hb : sz W b.natAbs ≤ 549755813888) : sz W (a - b).natAbs ≤ 1099511627776 :=
  Nat.le_trans (sz_mono W2 (by omega : (a - b).natAbs ≤ a.natAbs + b.natAbs)) (Nat.le_trans (sz_add W2 ha hb) (by omega))

set_option maxHeartbeats 800000 in
theorem RCmp_any (v0 v1 : Value) (a b : Int) (w : World) (h0 : RawAt w v0 a) (h1 : RawAt w v1 b) (ha : sz W a.natAbs ≤ 549755813888) (hb : sz W b.natAbs ≤ 549755813888) :
    Calls Tryz.prog 27 #[v0, v1] w (RNum .i64 (ord a b) w) := by
  have hsz := sz_sub a b ha hb
  have g1 : ∀ W', Below w.heap.size w W' → Calls Tryz.prog 35 #[v0, v1] W' (RInt (a - b) W') := fun W' hb => RSub_any v0 v1 a b W' (h0.below hb) (h1.below hb)
  have g2 : ∀ W' v, IntAt W' v (a - b) → Calls Tryz.prog 20 #[v] W' (RNum .i64 (ord a b) W') := fun W' v hv => by
    have := RSign_any v _ W' (hv.raw hsz)
    rwa [ord_sub] at this
  have G1 := hid g1; have G2 := hid g2
  obtain ⟨n0, s0, l0, rfl, a0, -⟩ := id h0
  obtain ⟨n1, s1, l1, rfl, a1, -⟩ := id h1
  clear g1 g2 hsz h0 h1 a0 a1
  generalize a - b = d at *
  generalize ord a b = r at *
  go_enter Tryz.func27, Tryz.ntmps27
  go_wp2_with fail
  refine (G1.out _ ((below1 _ _).alloc (by simp) _)).mono ?_
  rintro e w1 ⟨v1, rfl, hi1, hb1⟩
  go_wp2_with fail
  refine (G2.out _ _ hi1).mono ?_
  rintro e w2 ⟨rfl, hb2⟩
  go_wp2_with fail
  go_ret
  exact ⟨rfl, (((below1 _ _).alloc (by simp) _).trans (hb1.mono (B' := w.heap.size) (by simp; omega))).trans (hb2.mono (B' := w.heap.size) (by have := hb1.size; simp at this; omega))⟩
theorem small_one {x : Nat} (h : x < W) : Small W [x] := small_cons h (small_nil W)

theorem At.one1 (w : World) (o : Obj) (k : IntKind) (x : Nat) (t : TypeId) : At ((w.alloc o).alloc (.cells #[.int k (x : Nat)] t)) k (.slice (some ⟨w.heap.size + 1, 0, none⟩) 1 1) [x] := by
  have := At.one (w.alloc o) k x t
  rwa [size_alloc] at this
theorem sz_word {n : Nat} (h : n < W) : sz W n ≤ 1 := sz_le_of_lt W2 (by rwa [Nat.pow_one])

set_option maxHeartbeats 1600000 in
theorem ROf_any (z : Int) (w : World) (h0 : -9223372036854775808 ≤ z) (h1 : z ≤ 9223372036854775807) : Calls Tryz.prog 25 #[.int .i64 z] w (RInt z w) := by
  by_cases hz : z < 0
  · obtain ⟨n, hn⟩ : ∃ n : Nat, z = -(n : Int) - 1 := ⟨(-z - 1).toNat, by omega⟩
    have hnW : n < W := by unfold W; omega
    have hn' : n ≤ 9223372036854775807 := by omega
    subst hn
    clear h0 h1
    have hsz : sz W (sg true n).natAbs ≤ 1099511627776 := by rw [sg_natAbs]; exact Nat.le_trans (sz_word hnW) (by omega)
    have hsz1 : sz W (sg false 1).natAbs ≤ 1099511627776 := by rw [sg_natAbs]; exact Nat.le_trans (sz_word (by decide)) (by omega)
    have g1 : ∀ o o', Calls Tryz.prog 40 #[.bool true, .slice (some ⟨w.heap.size + 1, 0, none⟩) 1 1] ((w.alloc o).alloc (.cells #[.int .u64 (n : Nat)] o')) (RInt (sg true n) ((w.alloc o).alloc (.cells #[.int .u64 (n : Nat)] o'))) := fun o o' => by
      have := Whole_any true _ [n] _ (At.one1 w o .u64 n o') (small_one hnW) (by simp)
      rwa [show val W [n] = n by simp [val]] at this
    have g2 : ∀ W' o', Calls Tryz.prog 40 #[.bool false, .slice (some ⟨World.heap W' |>.size, 0, none⟩) 1 1] (W'.alloc (.cells #[.int .u64 1] o')) (RInt (sg false 1) (W'.alloc (.cells #[.int .u64 1] o'))) := fun W' o' => by
      have := Whole_any false _ [1] _ (At.oneI W' .u64 1 1 o' rfl) (small_one (by decide)) (by simp)
      rwa [show val W [1] = 1 by simp [val]] at this
    have g3 : ∀ W' v v', IntAt W' v (sg true n) → IntAt W' v' (sg false 1) → Calls Tryz.prog 35 #[v, v'] W' (RInt (-(n : Int) - 1) W') := fun W' v v' h h' => by
      have := RSub_any v v' _ _ W' (h.raw hsz) (h'.raw hsz1)
      rwa [show sg true n - sg false 1 = -(n : Int) - 1 by simp [sg]] at this
    have G1 := hid g1; have G2 := hid g2; have G3 := hid g3
    clear g1 g2 g3 hsz hsz1
    obtain ⟨r, hr⟩ : ∃ r, r = -(n : Int) - 1 := ⟨_, rfl⟩
    have G3' : Hid (∀ W' v v', IntAt W' v (sg true n) → IntAt W' v' (sg false 1) → Calls Tryz.prog 35 #[v, v'] W' (RInt r W')) := by rw [hr]; exact G3
    have G4 : Hid (∀ e w', RInt r w e w' → RInt (-(n : Int) - 1) w e w') := by rw [hr]; exact fun _ _ h => h
    refine Calls.mono ?_ G4.out
    clear hr G3
    generalize sg true n = a at *
    generalize sg false 1 = b at *
    go_enter Tryz.func25, Tryz.ntmps25
    go_wp2_with fail
    refine (G1.out _ _).mono ?_
    rintro e w1 ⟨v1, rfl, hi1, hb1⟩
    go_wp2_with fail
    refine (G2.out _ _).mono ?_
    rintro e w2 ⟨v2, rfl, hi2, hb2⟩
    have hi1' := hi1.below ((below1 _ _).trans (hb2.mono (B' := w1.heap.size) (by simp)))
    go_wp2_with fail
    refine (G3'.out _ _ _ hi1' hi2).mono ?_
    rintro e w3 ⟨v3, rfl, hi3, hb3⟩
    obtain ⟨p3, n3, c3, rfl, hi3⟩ := hi3.shape
    have z1 : w.heap.size + 2 ≤ w1.heap.size := by have := hb1.size; simp at this; omega
    have z2 : w.heap.size + 3 ≤ w2.heap.size := by have := hb2.size; simp at this; omega
    have b12 : Below w1.heap.size w1 w2 := (below1 _ _).trans (hb2.mono (B' := w1.heap.size) (by simp))
    have hpr : Pair w3 w.heap.size 35 := Pair.below (Pair.below (Pair.below (Pair.below (Pair.new ..) (below1 _ _)) hb1) b12) hb3
    obtain ⟨_, _, q0, q1, q2, q3⟩ := hpr.cells
    have bw : Below w.heap.size w w3 := ((((below1 _ _).alloc (by simp) _).trans (hb1.mono (B' := w.heap.size) (by simp; omega))).trans (b12.mono (B' := w.heap.size) (by omega))).trans (hb3.mono (B' := w.heap.size) (by omega))
    have Hi := hid hi3
    clear hb1 hb2 hb3 b12 hi1 hi1' hi2 hi3
    go_wp2
    exact bodyPost_ret (v := .agg #[.bool (decide (r < 0)), .slice p3 n3 c3]) (by simp [results, Tryz.results25, go_sem, q0, q1]) rfl
      ⟨_, rfl, Hi.out.stored hpr _ _ _ _, Below.stored bw (by omega) _ _⟩
  · obtain ⟨n, hn⟩ : ∃ n : Nat, z = (n : Int) := ⟨z.natAbs, by omega⟩
    subst hn
    have hnW : n < W := by unfold W; omega
    have g1 : ∀ o o', Calls Tryz.prog 40 #[.bool false, .slice (some ⟨w.heap.size + 1, 0, none⟩) 1 1] ((w.alloc o).alloc (.cells #[.int .u64 (n : Nat)] o')) (RInt (n : Int) ((w.alloc o).alloc (.cells #[.int .u64 (n : Nat)] o'))) := fun o o' => by
      have := Whole_any false _ [n] _ (At.one1 w o .u64 n o') (small_one hnW) (by simp)
      rwa [show sg false (val W [n]) = (n : Int) by simp [val, sg]] at this
    have G1 := hid g1
    clear g1
    go_enter Tryz.func25, Tryz.ntmps25
    go_wp2_with fail
    refine (G1.out _ _).mono ?_
    rintro e w1 ⟨v1, rfl, hi1, hb1⟩
    obtain ⟨p3, n3, c3, rfl, hi1⟩ := hi1.shape
    have z1 : w.heap.size + 2 ≤ w1.heap.size := by have := hb1.size; simp at this; omega
    have hpr : Pair w1 w.heap.size 35 := Pair.below (Pair.below (Pair.new ..) (below1 _ _)) hb1
    obtain ⟨_, _, q0, q1, q2, q3⟩ := hpr.cells
    have bw : Below w.heap.size w w1 := ((below1 _ _).alloc (by simp) _).trans (hb1.mono (B' := w.heap.size) (by simp; omega))
    have Hi := hid hi1
    clear hb1 hi1
    go_wp2
    exact bodyPost_ret (v := .agg #[.bool (decide ((n : Int) < 0)), .slice p3 n3 c3]) (by simp [results, Tryz.results25, go_sem, q0, q1]) rfl
      ⟨_, rfl, Hi.out.stored hpr _ _ _ _, Below.stored bw (by omega) _ _⟩
end Go.Proofs.YtnfohbpgnbfmeaaGreatDoor
/- whole.divide of numbers of one word. -/
namespace Go.Proofs.YtnfohbpgnbfmeaaGreatDoor
open Go.RowKit Big

def RTwoNat (q r : Nat) (w : World) (e : Ending) (w' : World) : Prop := ∃ v v', e = .returned (.tuple #[v, v']) ∧ At w' .u64 v (dig W q) ∧ At w' .u64 v' (dig W r) ∧ Below w.heap.size w w'

theorem head_dig {n : Nat} (h : n < W) : (dig W n).headD 0 = n := by
  by_cases h0 : n = 0
  · subst h0; rfl
  · rw [dig_one W2 (by omega) h]; rfl

set_option maxRecDepth 100000 in
set_option maxHeartbeats 1600000 in
theorem divide_small (v0 v1 : Value) (n m : Nat) (w : World) (h0 : At w .u64 v0 (dig W n)) (h1 : At w .u64 v1 (dig W m)) (hn : n < W) (hm : m < W) (hm0 : 0 < m) :
    Calls Tryz.prog 85 #[v0, v1] w (RTwoNat (n / m) (n % m) w) := by
  have g0 : ∀ W', Below w.heap.size w W' → Calls Tryz.prog 96 #[v0] W' fun e w' => e = .returned (.int .u64 (n : Nat)) ∧ W' = w' := fun W' hb => by
    have := word_any v0 _ W' (h0.below hb); rwa [head_dig hn] at this
  have g1 : ∀ W', Below w.heap.size w W' → Calls Tryz.prog 96 #[v1] W' fun e w' => e = .returned (.int .u64 (m : Nat)) ∧ W' = w' := fun W' hb => by
    have := word_any v1 _ W' (h1.below hb); rwa [head_dig hm] at this
  have s0 : (dig W n).length ≤ 1 := sz_word hn
  have s1 : (dig W m).length ≤ 1 := sz_word hm
  have G0 := hid g0; have G1 := hid g1
  clear g0 g1
  obtain ⟨p0, c0, rfl, -⟩ := h0
  obtain ⟨p1, c1, rfl, -⟩ := h1
  have o0 : ∀ W', Calls Tryz.prog 77 #[.int .u64 ((n / m : Nat) : Int)] W' (RAt .u64 (dig W (n / m)) W') := fun W' => ownWord_any (n / m) W' (Nat.lt_of_le_of_lt (Nat.div_le_self n m) hn)
  have o1 : ∀ W', Calls Tryz.prog 77 #[.int .u64 ((n % m : Nat) : Int)] W' (RAt .u64 (dig W (n % m)) W') := fun W' => ownWord_any (n % m) W' (Nat.lt_trans (Nat.mod_lt n hm0) hm)
  have O0 := hid o0; have O1 := hid o1
  clear o0 o1
  have hq : n / m < W := Nat.lt_of_le_of_lt (Nat.div_le_self n m) hn
  have td' : IntKind.u64.wrap ((n : Int) / (m : Int)) = ((n / m : Nat) : Int) := by
    rw [← Int.natCast_ediv]
    generalize n / m = q at *
    unfold W at hq
    simp only [IntKind.wrap, IntKind.bits, IntKind.signed]
    simp; omega
  have tm' : ((n : Int) % (m : Int)) = ((n % m : Nat) : Int) := (Int.natCast_emod n m).symm
  have hb : ((m : Int) == 0) = false := beq_eq_false_iff_ne.2 (by omega)
  have Td' := hid td'; have Tm' := hid tm'
  clear td' tm' hq
  generalize (dig W n).length = k0 at *
  generalize (dig W m).length = k1 at *
  go_enter Tryz.func85, Tryz.ntmps85
  go_wp2_with fail
  refine (G0.out _ (Below.refl _ _)).mono ?_
  rintro e w' ⟨rfl, rfl⟩
  go_wp2_with fail
  refine (G1.out _ (Below.refl _ _)).mono ?_
  rintro e w' ⟨rfl, rfl⟩
  go_wp2_with fail
  rw [Td'.out]
  refine (O0.out _).mono ?_
  rintro e w1 ⟨q, rfl, hq, hb1⟩
  go_wp2_with fail
  refine (G0.out _ hb1).mono ?_
  rintro e w' ⟨rfl, rfl⟩
  go_wp2_with fail
  refine (G1.out _ hb1).mono ?_
  rintro e w' ⟨rfl, rfl⟩
  go_wp2_with fail
  rw [Tm'.out]
  refine (O1.out _).mono ?_
  rintro e w2 ⟨r, rfl, hr, hb2⟩
  go_wp2_with fail
  go_ret2
  exact ⟨_, _, rfl, hq.below hb2, hr, hb1.trans (hb2.mono hb1.size)⟩
end Go.Proofs.YtnfohbpgnbfmeaaGreatDoor
/- elenchusref01.Same, SameInt. -/
namespace Go.Proofs.YtnfohbpgnbfmeaaGreatDoor
open Go.RowKit Big

def RDrawn (v : Value) (w : World) (e : Ending) (w' : World) : Prop := e = .returned v ∧ ∃ k, w' = w.drewN k

set_option maxHeartbeats 800000 in
theorem Same_any (v0 v1 : Value) (l0 l1 : List Nat) (w : World) (h0 : At w .u64 v0 l0) (h1 : At w .u64 v1 l1) :
    Calls Tryz.prog 39 #[v0, v1] w (RDrawn (.bool (decide (l0 = l1))) w) := by
  obtain ⟨r, hr⟩ : ∃ r, r = decide (l0 = l1) := ⟨_, rfl⟩
  rw [← hr]
  have Hr := hid hr
  clear hr
  obtain ⟨p0, c0, rfl, a1, a2, a3, a4⟩ := h0
  obtain ⟨p1, c1, rfl, b1, b2, b3, b4⟩ := h1
  unfold maxLen at a2 b2
  by_cases hl : l0.length = l1.length
  · have Hl := hid hl
    rw [hl] at a1 ⊢; clear hl
    go_enter Tryz.func39, Tryz.ntmps39
    go_wp2_with fail
    go_loopw [13] (fun i wr => ∃ (k : Nat), k ≤ l1.length ∧ i = .int .i64 (k : Nat) ∧ Hid (l0.take k = l1.take k) ∧ Hid (∃ j, wr = w.drewN j)) (fun i _ => l1.length - (intOf i).toNat)
    case atStart => exact ⟨0, Nat.zero_le _, rfl, rfl, 0, rfl⟩
    case round =>
      obtain ⟨k, hk, rfl, hd, Hw⟩ := hrel
      by_cases hk0 : k < l1.length
      · have hkl : k < l0.length := by rw [Hl.out]; omega
        obtain ⟨b, off, rfl, hbb, hc0⟩ := a4 (Nat.lt_of_le_of_lt (Nat.zero_le _) hkl)
        obtain ⟨b', off', rfl, hbb', hc1⟩ := b4 (by omega)
        have e0 : wr.cell? ⟨b, off + k, none⟩ = some (.int .u64 (l0[k] : Nat)) := by obtain ⟨j, rfl⟩ := Hw.out; exact hc0 k hkl
        have e1 : wr.cell? ⟨b', off' + k, none⟩ = some (.int .u64 (l1[k] : Nat)) := by obtain ⟨j, rfl⟩ := Hw.out; exact hc1 k (by omega)
        have es : l0[k] = l1[k] → l0.take (k + 1) = l1.take (k + 1) := fun h => by rw [take_succ' l0 k hkl, take_succ' l1 k hk0, hd.out, h]
        have en : l0[k] ≠ l1[k] → decide (l0 = l1) = false := fun h => by simp only [decide_eq_false_iff_not]; rintro rfl; exact h rfl
        generalize l0[k] = x at *
        generalize l1[k] = y at *
        have Es : Hid (x = y → l0.take (k + 1) = l1.take (k + 1)) := es
        have En : Hid (x ≠ y → decide (l0 = l1) = false) := en
        clear a4 b4 hc0 hc1 es en hbb hbb'
        have hlow : (0 : Int) ≤ (k : Int) := by omega
        have hup : (k : Int) < (l1.length : Int) := by omega
        by_cases hxy : x = y
        · subst hxy
          go_wp2
          go_quiet (fail)
          go_wp2
          go_roundw
          case rel => exact ⟨k + 1, by omega, by go_num, Es.out (by trivial), drawn_more Hw.out⟩
          case measure => (simp [intOf] <;> omega)
        · have hb : ((x : Int) != (y : Int)) = true := bne_iff_ne.2 (fun h => hxy (by omega))
          have Hf : Hid (decide (l0 = l1) = false) := En.out hxy
          clear Es En
          go_wp2
          go_quiet (fail)
          go_wp2
          go_ret
          exact ⟨by rw [Hr.out, Hf.out]; rfl, drawn_more Hw.out⟩
      · obtain rfl : k = l1.length := by omega
        have ht : Hid (decide (l0 = l1) = true) := by
          have h := hd.out
          rw [List.take_length, List.take_of_length_le (Nat.le_of_eq Hl.out)] at h
          simpa [Hid] using h
        clear a4 b4 hd
        go_wp2
        go_ret
        exact ⟨by rw [Hr.out, ht.out]; rfl, Hw.out⟩
  · have hb : ((l0.length : Int) != (l1.length : Int)) = true := bne_iff_ne.2 (by omega)
    have Hf : Hid (decide (l0 = l1) = false) := by
      simp only [Hid, decide_eq_false_iff_not]; rintro rfl; exact hl rfl
    clear a4 b4
    go_enter Tryz.func39, Tryz.ntmps39
    go_wp2
    go_ret
    exact ⟨by rw [Hr.out, Hf.out]; rfl, 0, rfl⟩

set_option maxHeartbeats 800000 in
theorem SameInt_raw (n0 n1 : Bool) (s0 s1 : Value) (l0 l1 : List Nat) (w : World) (h0 : At w .u64 s0 l0) (h1 : At w .u64 s1 l1) (hn : n0 = n1) (hl : l0 = l1) :
    Calls Tryz.prog 18 #[.agg #[.bool n0, s0], .agg #[.bool n1, s1]] w (RBool true w) := by
  subst hn
  subst hl
  have g : ∀ o o', Calls Tryz.prog 39 #[s0, s1] ((w.alloc o).alloc o') (RDrawn (.bool true) ((w.alloc o).alloc o')) := fun o o' => by
    have := Same_any s0 s1 l0 l0 _ ((h0.alloc o).alloc o') ((h1.alloc o).alloc o')
    rwa [decide_eq_true rfl] at this
  have G := hid g
  clear g h0 h1
  go_enter Tryz.func18, Tryz.ntmps18
  go_wp2_with fail
  refine (G.out _ _).mono ?_
  rintro e w' ⟨rfl, k, rfl⟩
  go_wp2_with fail
  go_ret
  exact ⟨rfl, below_drewN ((below1 _ _).alloc (by simp) _) _⟩
theorem SameInt_same (v0 v1 : Value) (z : Int) (w : World) (h0 : IntAt w v0 z) (h1 : IntAt w v1 z) : Calls Tryz.prog 18 #[v0, v1] w (RBool true w) := by
  obtain ⟨s0, rfl, a0⟩ := h0
  obtain ⟨s1, rfl, a1⟩ := h1
  exact SameInt_raw _ _ s0 s1 _ _ w a0 a1 rfl rfl
end Go.Proofs.YtnfohbpgnbfmeaaGreatDoor
/- elenchuslaw01.few of two numbers, copied. -/
namespace Go.Proofs.YtnfohbpgnbfmeaaGreatDoor
open Go.RowKit Big

end Go.Proofs.YtnfohbpgnbfmeaaGreatDoor
/- elenchuslaw01.copied: the same number in new memory. -/
namespace Go.Proofs.YtnfohbpgnbfmeaaGreatDoor
open Go.RowKit Big

theorem Pair.far {w w' : World} {g B : Nat} {t : TypeId} (h : Pair w g t) (hg : g < B) (hb : Below B w w') : Pair w' g t := by
  obtain ⟨x, p, n, c, h⟩ := h
  exact ⟨x, p, n, c, (hb.block g hg).trans h⟩
/-- 'append(v, x...)' inside a region that draws its order -/
theorem step_append_at {P : Program} {w : World} {ops : Array Oper} {o : Oper} {a : Act} {K : Act → World → Prop} {Q : Exit → Act → World → Prop} {E' : Prop} (hgd : o.guard = none) (s x : Operand) (t : TypeId)
    (ho : o.op = .call { callee := .builtin .append, args := #[s, x], argTypes := #[t, t] })
    {e : TypeId} {k : IntKind} {size : Nat} (E : Elem P t e k size) (base : Nat) (v : Value) (l : List Nat) (hs : a.eval s = v) (hown : Own w base e k v l)
    (vx : Value) (m : List Nat) (hx : a.eval x = vx) (hat : At w k vx m)
    (hlen : l.length + m.length ≤ maxLen) (hbytes : (l.length + m.length) * size ≤ 140737488355328) (hbase : base ≤ w.heap.size)
    (h : ∀ v' w', Own w' base e k v' (l ++ m) → Below base w w' → w.heap.size ≤ w'.heap.size → K (a.put o.dst v') w') :
    if Region.wanted o (yielded ops a.tmps) = true then Oper.wp P o a w K Q else E' := by
  have hw : Region.wanted o (yielded ops a.tmps) = true := by simp [Region.wanted, hgd]
  rw [if_pos hw]
  obtain ⟨i, hi, hz, hsz, hby⟩ := E.row
  obtain ⟨p, cap, rfl, h1, h2, h3, h4⟩ := hat
  cases p with
  | none =>
    obtain rfl := h3 rfl
    obtain rfl : m = [] := List.eq_nil_of_length_eq_zero (by omega)
    have hrun := run_append_owned_none (P := P) (w := w) base t o.type e i 1 E.und hi v l.length (ints k l) hown
    unfold Oper.wp
    simp [execOp, ho, resolve, invoke, builtin, hs, hx, hrun, Result.andThen]
    exact h _ _ (by rw [List.append_nil]; exact hown) (Below.refl _ _) (Nat.le_refl _)
  | some ad =>
    refine wp_append_own w s x t ho base e i (.int k 0) 1 size E.und hi hz hsz hby rfl (by decide) v l.length (ints k l) hs hown ad m.length cap (ints k m) hx (by simp [ints_length]) ?_ ?_ hlen hbytes hbase ?_
    · intro j u hj
      by_cases hjm : j < m.length
      · obtain ⟨b, off, he, hb, hc⟩ := h4 (by omega)
        cases he
        rw [Go.WideShapes.add_plain, hc j hjm]
        simpa [ints, hjm] using hj
      · rw [List.getElem?_eq_none (by rw [ints_length]; omega)] at hj; cases hj
    · intro u hu
      obtain ⟨n, _, rfl⟩ := List.mem_map.1 hu
      rfl
    · intro v' w' h5 h6 _
      refine h v' w' ?_ ((Below.refl _ _).grown h6 hbase hown.row) h6.size
      unfold Own
      rw [List.length_append, ints_append]; exact h5

def RCopied (neg : Bool) (l : List Nat) (w : World) (e : Ending) (w' : World) : Prop := ∃ p c, e = .returned (.agg #[.bool neg, .slice p l.length c]) ∧ At w' .u64 (.slice p l.length c) l ∧ Below w.heap.size w w'

end Go.Proofs.YtnfohbpgnbfmeaaGreatDoor
/- 'x, y := copied(a), copied(b)': what holds of the frame and the world, whatever has come up of the statement. -/
namespace Go.Proofs.YtnfohbpgnbfmeaaGreatDoor
open Go.RowKit Big

theorem Two.drew {w : World} {g : Nat} {a b c d : Value} (h : Two w g a b c d) : Two w.drew g a b c d := ⟨h.c00, h.c01, h.c10, h.c11, h.lt⟩
theorem Two.set {w : World} {g : Nat} {a b c d : Value} (h : Two w g a b c d) (x j : Nat) (u : Value) (hx : g + 1 < x) : Two (w.setCell ⟨x, j, none⟩ u) g a b c d :=
  ⟨(World.cell?_of_block (w := w) (Below.heap_setCell w _ u g (by show g ≠ x; omega))).trans h.c00, (World.cell?_of_block (w := w) (Below.heap_setCell w _ u g (by show g ≠ x; omega))).trans h.c01,
   (World.cell?_of_block (w := w) (Below.heap_setCell w _ u (g + 1) (by show g + 1 ≠ x; omega))).trans h.c10, (World.cell?_of_block (w := w) (Below.heap_setCell w _ u (g + 1) (by show g + 1 ≠ x; omega))).trans h.c11, by simpa [World.setCell] using h.lt⟩
theorem Below.go {u w w' : World} (hb : Below w.heap.size w w') (h : Below u.heap.size u w) : Below u.heap.size u w' := h.trans (hb.mono h.size)
/-- a value is a number's copy -/
def Cop (w : World) (n : Bool) (l : List Nat) (v : Value) : Prop := ∃ q k, v = .agg #[.bool n, .slice q l.length k] ∧ At w .u64 (.slice q l.length k) l
theorem Cop.below {w w' : World} {n : Bool} {l : List Nat} {v : Value} (h : Cop w n l v) (hb : Below w.heap.size w w') : Cop w' n l v := by
  obtain ⟨q, k, rfl, ha⟩ := h
  exact ⟨q, k, rfl, ha.below hb⟩
/-- a pointer to a variable of a number, from block B on -/
def VarAt (w : World) (B : Nat) (v : Value) : Prop := ∃ g, v = .pointer (some ⟨g, 0, none⟩) ∧ Pair w g 35 ∧ B ≤ g
theorem VarAt.below {w w' : World} {B : Nat} {v : Value} (h : VarAt w B v) (hb : Below w.heap.size w w') : VarAt w' B v := by
  obtain ⟨g, rfl, hp, hB⟩ := h
  exact ⟨g, rfl, hp.below hb, hB⟩
/-- .. which holds the number's copy -/
def Holds (w : World) (n : Bool) (l : List Nat) (v : Value) : Prop :=
  ∃ g q k, v = .pointer (some ⟨g, 0, none⟩) ∧ w.heap[g]? = some (.cells #[.bool n, .slice q l.length k] 35 (0, 0)) ∧ At w .u64 (.slice q l.length k) l

structure C2 (g0 : Nat) (n0 n1 : Bool) (p0 p1 : Option Addr) (c0 c1 : Nat) (l0 l1 : List Nat) (B : Nat) (u : World) (L : Array Bool) (s5 s6 s15 s16 s17 s18 : Value) (w : World) : Prop where
  two : Two w g0 (.bool n0) (.slice p0 l0.length c0) (.bool n1) (.slice p1 l1.length c1)
  low : g0 + 2 ≤ B
  bel : Below B u w
  sz : B ≤ w.heap.size
  a0 : At w .u64 (.slice p0 l0.length c0) l0
  a1 : At w .u64 (.slice p1 l1.length c1) l1
  f0 : L.getD 0 false = true → s15 = .agg #[.bool n0, .slice p0 l0.length c0]
  f1 : L.getD 1 false = true → Cop w n0 l0 s16
  f2 : L.getD 2 false = true → s17 = .agg #[.bool n1, .slice p1 l1.length c1]
  f3 : L.getD 3 false = true → Cop w n1 l1 s18
  f4 : L.getD 4 false = true → VarAt w B s5
  f5 : L.getD 5 false = true → VarAt w B s6
  f45 : L.getD 4 false = true → L.getD 5 false = true → s5 ≠ s6
  f6 : L.getD 6 false = true → Holds w n0 l0 s5
  f7 : L.getD 7 false = true → Holds w n1 l1 s6
  d6 : L.getD 6 false = true → L.getD 4 false = true ∧ L.getD 5 false = true
  d7 : L.getD 7 false = true → L.getD 6 false = true

section
variable {g0 : Nat} {n0 n1 : Bool} {p0 p1 : Option Addr} {c0 c1 : Nat} {l0 l1 : List Nat} {B : Nat} {u : World} {L : Array Bool} {s5 s6 s15 s16 s17 s18 : Value} {w : World}
theorem Holds.below {w w' : World} {n : Bool} {l : List Nat} {v : Value} (h : Holds w n l v) (hb : Below w.heap.size w w') : Holds w' n l v := by
  obtain ⟨g, q, k, rfl, hg, ha⟩ := h
  exact ⟨g, q, k, rfl, (hb.block g (Array.getElem?_eq_some_iff.1 hg).1).trans hg, ha.below hb⟩
theorem VarAt.ne {w : World} {v : Value} {B : Nat} (h : VarAt w B v) : v ≠ .pointer (some ⟨w.heap.size, 0, none⟩) := by
  obtain ⟨g, rfl, hp, -⟩ := h
  intro he
  have hl := hp.lt
  injection he with he
  injection he with he
  injection he with he
  omega
theorem Cop.stored {w : World} {n : Bool} {l : List Nat} {v : Value} (h : Cop w n l v) {g : Nat} {t : TypeId} (hp : Pair w g t) (x : Bool) (p : Option Addr) (m c : Nat) :
    Cop ((w.setCell ⟨g, 0, none⟩ (.bool x)).setCell ⟨g, 1, none⟩ (.slice p m c)) n l v := by
  obtain ⟨q, k, rfl, ha⟩ := h
  exact ⟨q, k, rfl, ha.stored hp x p m c⟩
theorem Pair.apart {w : World} {g g' : Nat} {t : TypeId} (h : Pair w g t) (hne : g ≠ g') (u u' : Value) : Pair ((w.setCell ⟨g', 0, none⟩ u).setCell ⟨g', 1, none⟩ u') g t := by
  obtain ⟨x, p, n, c, h⟩ := h
  exact ⟨x, p, n, c, ((Below.heap_setCell _ _ _ _ hne).trans (Below.heap_setCell _ _ _ _ hne)).trans h⟩
theorem Pair.self {w : World} {g : Nat} {t : TypeId} (h : Pair w g t) (x : Bool) (p : Option Addr) (n c : Nat) : Pair ((w.setCell ⟨g, 0, none⟩ (.bool x)).setCell ⟨g, 1, none⟩ (.slice p n c)) g t := (h.set0 x).set1 p n c
theorem VarAt.stored {w : World} {B : Nat} {v : Value} (h : VarAt w B v) {g : Nat} (hp : Pair w g 35) (x : Bool) (p : Option Addr) (n c : Nat) : VarAt ((w.setCell ⟨g, 0, none⟩ (.bool x)).setCell ⟨g, 1, none⟩ (.slice p n c)) B v := by
  obtain ⟨g', rfl, hp', hB⟩ := h
  refine ⟨g', rfl, ?_, hB⟩
  by_cases he : g' = g
  · subst he; exact hp'.self x p n c
  · exact hp'.apart he _ _
theorem Pair.put {w : World} {g : Nat} {t : TypeId} (h : Pair w g t) (x : Bool) (p : Option Addr) (n c : Nat) : ((w.setCell ⟨g, 0, none⟩ (.bool x)).setCell ⟨g, 1, none⟩ (.slice p n c)).heap[g]? = some (.cells #[.bool x, .slice p n c] t (0, 0)) := by
  obtain ⟨y, p', n', c', h⟩ := h
  have h1 := heap_setCell_same w g 0 _ t (.bool x) h
  exact heap_setCell_same _ g 1 _ t (.slice p n c) h1
/-- all has come up -/
structure Done2 (g0 : Nat) (n0 n1 : Bool) (p0 p1 : Option Addr) (c0 c1 : Nat) (l0 l1 : List Nat) (B : Nat) (u : World) (s5 s6 : Value) (w : World) : Prop where
  two : Two w g0 (.bool n0) (.slice p0 l0.length c0) (.bool n1) (.slice p1 l1.length c1)
  bel : Below B u w
  sz : B ≤ w.heap.size
  a0 : At w .u64 (.slice p0 l0.length c0) l0
  a1 : At w .u64 (.slice p1 l1.length c1) l1
  hx : Holds w n0 l0 s5
  hy : Holds w n1 l1 s6
theorem C2.done (h : C2 g0 n0 n1 p0 p1 c0 c1 l0 l1 B u L s5 s6 s15 s16 s17 s18 w) (h6 : L.getD 6 false = true) (h7 : L.getD 7 false = true) : Done2 g0 n0 n1 p0 p1 c0 c1 l0 l1 B u s5 s6 w :=
  { h with hx := h.f6 h6, hy := h.f7 h7 }
theorem C2.start {g0 : Nat} {n0 n1 : Bool} {p0 p1 : Option Addr} {c0 c1 : Nat} {l0 l1 : List Nat} {w : World} {s5 s6 s15 s16 s17 s18 : Value} (ht : Two w g0 (.bool n0) (.slice p0 l0.length c0) (.bool n1) (.slice p1 l1.length c1))
    (ha : At w .u64 (.slice p0 l0.length c0) l0) (hb : At w .u64 (.slice p1 l1.length c1) l1) : C2 g0 n0 n1 p0 p1 c0 c1 l0 l1 w.heap.size w (Array.replicate 8 false) s5 s6 s15 s16 s17 s18 w.drew :=
  { two := ht.drew, low := ht.lt, bel := Below.drew (Below.refl _ _), sz := Nat.le_refl _, a0 := ha.drew, a1 := hb.drew
    f0 := fun h => by simp at h
    f1 := fun h => by simp at h
    f2 := fun h => by simp at h
    f3 := fun h => by simp at h
    f4 := fun h => by simp at h
    f5 := fun h => by simp at h
    f45 := fun h => by simp at h
    f6 := fun h => by simp at h
    f7 := fun h => by simp at h
    d6 := fun h => by simp at h
    d7 := fun h => by simp at h }
end
end Go.Proofs.YtnfohbpgnbfmeaaGreatDoor
/- whole.times and whole.Mul. -/
namespace Go.Proofs.YtnfohbpgnbfmeaaGreatDoor
open Go.RowKit Big

set_option maxHeartbeats 800000 in
theorem fits_yes (v : Value) (n : Nat) (w : World) (h : At w .u64 v (dig W n)) (hn : n < H) : Calls Tryz.prog 136 #[v] w (fun e w' => e = .returned (.bool true) ∧ w = w') := by
  have hw : n < W := Nat.lt_trans hn (by decide)
  have g := word_any v _ w h
  rw [head_dig hw] at g
  have G := hid g; clear g
  have hl : (dig W n).length ≤ 1 := sz_word hw
  obtain ⟨p, c, rfl, -⟩ := h
  generalize (dig W n).length = k at *
  unfold H at hn
  clear hw
  have h0 : (n : Int) / 4294967296 = 0 := by omega
  go_enter Tryz.func136, Tryz.ntmps136
  go_wp2_with (go_at_call 96; refine G.out.mono ?_; rintro e w' ⟨rfl, rfl⟩)
  go_ret
  exact ⟨rfl, rfl⟩
set_option maxHeartbeats 800000 in
theorem fits_no (v : Value) (n : Nat) (w : World) (h : At w .u64 v (dig W n)) (hn : H ≤ n) : Calls Tryz.prog 136 #[v] w (fun e w' => e = .returned (.bool false) ∧ w = w') := by
  by_cases hw : n < W
  · have g := word_any v _ w h
    rw [head_dig hw] at g
    have G := hid g; clear g
    have hl : (dig W n).length ≤ 1 := sz_word hw
    obtain ⟨p, c, rfl, -⟩ := h
    generalize (dig W n).length = k at *
    unfold H at hn
    unfold W at hw
    have h0 : ((n : Int) / 4294967296 == 0) = false := beq_eq_false_iff_ne.2 (by omega)
    go_enter Tryz.func136, Tryz.ntmps136
    go_wp2_with (go_at_call 96; refine G.out.mono ?_; rintro e w' ⟨rfl, rfl⟩)
    go_ret
    exact ⟨rfl, rfl⟩
  · have hl : ¬ (dig W n).length ≤ 1 := fun e => hw (Nat.lt_of_lt_of_le (lt_pow_sz W2 n) (Nat.le_trans (Nat.pow_le_pow_right (by decide) (show sz W n ≤ 1 from e)) (by simp)))
    obtain ⟨p, c, rfl, -⟩ := h
    generalize (dig W n).length = k at *
    have hd : decide ((k : Int) ≤ 1) = false := decide_eq_false (by omega)
    clear hn hw
    go_enter Tryz.func136, Tryz.ntmps136
    go_wp2_with fail
    go_ret
    exact ⟨rfl, rfl⟩

theorem sz_H_W (n : Nat) : sz H n ≤ 2 * sz W n := by
  refine sz_le_of_lt H2 ?_
  rw [Nat.pow_mul, show H ^ 2 = W from rfl]
  exact lt_pow_sz W2 n

set_option maxRecDepth 100000 in
set_option maxHeartbeats 1600000 in
theorem times_any (v0 v1 : Value) (n m : Nat) (w : World) (h0 : At w .u64 v0 (dig W n)) (h1 : At w .u64 v1 (dig W m)) (b0 : sz W n ≤ 549755813888) (b1 : sz W m ≤ 549755813888) :
    Calls Tryz.prog 113 #[v0, v1] w (RAt .u64 (dig W (n * m)) w) := by
  by_cases hs : n < H ∧ m < H
  · obtain ⟨hn, hm⟩ := hs
    have f0 := hid (fits_yes v0 n w h0 hn)
    have f1 := hid (fits_yes v1 m w h1 hm)
    have wn : n < W := Nat.lt_trans hn (by decide)
    have wm : m < W := Nat.lt_trans hm (by decide)
    have g0 := word_any v0 _ w h0
    have g1 := word_any v1 _ w h1
    rw [head_dig wn] at g0
    rw [head_dig wm] at g1
    have G0 := hid g0; have G1 := hid g1
    have hp : n * m < W := by
      have : n * m ≤ 4294967295 * 4294967295 := Nat.mul_le_mul (by unfold H at hn; omega) (by unfold H at hm; omega)
      unfold W; omega
    have hw : IntKind.u64.wrap ((n : Int) * (m : Int)) = ((n * m : Nat) : Int) := by rw [← Int.natCast_mul]; exact wrap_nat _ hp
    have hO := ownWord_any (n * m) w hp
    have HO := hid hO; have Hw := hid hw
    clear g0 g1 hw hO hp hn hm wn wm b0 b1 h0 h1
    go_enter Tryz.func113, Tryz.ntmps113
    go_wp2_with fail
    refine f0.out.mono ?_
    rintro e w' ⟨rfl, rfl⟩
    go_wp2_with fail
    refine f1.out.mono ?_
    rintro e w' ⟨rfl, rfl⟩
    go_wp2_with fail
    refine G0.out.mono ?_
    rintro e w' ⟨rfl, rfl⟩
    go_wp2_with fail
    refine G1.out.mono ?_
    rintro e w' ⟨rfl, rfl⟩
    go_wp2_with fail
    rw [Hw.out]
    refine HO.out.mono ?_
    rintro e w1 ⟨v, rfl, hv, hb⟩
    go_wp2_with fail
    go_ret
    exact ⟨_, rfl, hv, hb⟩
  · have hb0 : sz H n ≤ 1099511627776 := Nat.le_trans (sz_H_W n) (by omega)
    have hb1 : sz H m ≤ 1099511627776 := Nat.le_trans (sz_H_W m) (by omega)
    have hb2 : sz H (n * m) ≤ 2199023255552 := Nat.le_trans (sz_mul H2 n m) (by omega)
    have s0 := split_any v0 (dig W n) w h0 (small_dig W2 n) (by have : (dig W n).length = sz W n := rfl; omega)
    rw [val_dig W2] at s0
    have s1 : ∀ W', Below w.heap.size w W' → Calls Tryz.prog 97 #[v1] W' (ROwn 157 .u32 (dig H m) W') := fun W' hb => by
      have := split_any v1 (dig W m) W' (h1.below hb) (small_dig W2 m) (by have : (dig W m).length = sz W m := rfl; omega)
      rwa [val_dig W2] at this
    have th : ∀ W' u u', At W' .u32 u (dig H n) → At W' .u32 u' (dig H m) → Calls Tryz.prog 137 #[u, u'] W' (ROwn 157 .u32 (dig H (n * m)) W') := fun W' u u' hu hu' => by
      have := timesHalves_any u u' _ _ W' hu hu' (small_dig H2 n) (small_dig H2 m) (by have : (dig H n).length = sz H n := rfl; omega) (by have : (dig H m).length = sz H m := rfl; omega)
      rwa [val_dig H2, val_dig H2] at this
    have S0 := hid s0; have S1 := hid s1; have Th := hid th
    have f0 : Hid (Calls Tryz.prog 136 #[v0] w (fun e w' => e = .returned (.bool (decide (n < H))) ∧ w = w')) := by
      unfold Hid
      by_cases hn : n < H
      · rw [decide_eq_true hn]; exact fits_yes v0 n w h0 hn
      · rw [decide_eq_false hn]; exact fits_no v0 n w h0 (Nat.le_of_not_lt hn)
    have f1 : n < H → Calls Tryz.prog 136 #[v1] w (fun e w' => e = .returned (.bool false) ∧ w = w') := fun hn => fits_no v1 m w h1 (Nat.le_of_not_lt fun hm => hs ⟨hn, hm⟩)
    have F1 := hid f1
    clear s0 s1 th hs f1 h0 h1 b0 b1 hb0 hb1
    by_cases hn : n < H
    · rw [decide_eq_true hn] at f0
      go_enter Tryz.func113, Tryz.ntmps113
      go_wp2_with fail
      refine f0.out.mono ?_
      rintro e w' ⟨rfl, rfl⟩
      go_wp2_with fail
      refine (F1.out hn).mono ?_
      rintro e w' ⟨rfl, rfl⟩
      go_wp2_with fail
      refine S0.out.mono ?_
      rintro e w1 ⟨u, rfl, hu, hu1⟩
      go_wp2_with fail
      refine (S1.out _ hu1).mono ?_
      rintro e w2 ⟨u', rfl, hu', hu2⟩
      go_wp2_with fail
      refine (Th.out _ _ _ (hu.at.below hu2) hu'.at).mono ?_
      rintro e w3 ⟨u3, rfl, hu3, hb3⟩
      go_wp2_with fail
      refine (join_any _ _ _ hu3.at (by omega)).mono ?_
      rintro e w4 ⟨u4, rfl, hu4, hb4⟩
      have hbel := hid (Below.go hb4 (Below.go hb3 (Below.go hu2 hu1)))
      clear hu1 hu2 hb3 hb4
      go_wp2_with fail
      go_ret
      exact ⟨_, rfl, hu4.at, hbel.out⟩
    · rw [decide_eq_false hn] at f0
      go_enter Tryz.func113, Tryz.ntmps113
      go_wp2_with fail
      refine f0.out.mono ?_
      rintro e w' ⟨rfl, rfl⟩
      go_wp2_with fail
      refine S0.out.mono ?_
      rintro e w1 ⟨u, rfl, hu, hu1⟩
      go_wp2_with fail
      refine (S1.out _ hu1).mono ?_
      rintro e w2 ⟨u', rfl, hu', hu2⟩
      go_wp2_with fail
      refine (Th.out _ _ _ (hu.at.below hu2) hu'.at).mono ?_
      rintro e w3 ⟨u3, rfl, hu3, hb3⟩
      go_wp2_with fail
      refine (join_any _ _ _ hu3.at (by omega)).mono ?_
      rintro e w4 ⟨u4, rfl, hu4, hb4⟩
      have hbel := hid (Below.go hb4 (Below.go hb3 (Below.go hu2 hu1)))
      clear hu1 hu2 hb3 hb4
      go_wp2_with fail
      go_ret
      exact ⟨_, rfl, hu4.at, hbel.out⟩

theorem sg_mul (n0 n1 : Bool) (x y : Nat) : sg (n0 != n1) (x * y) = sg n0 x * sg n1 y := by
  unfold sg; cases n0 <;> cases n1 <;> simp [Int.neg_mul, Int.mul_neg]

set_option maxRecDepth 100000 in
set_option maxHeartbeats 1600000 in
theorem Mul_any (v0 v1 : Value) (a b : Int) (w : World) (h0 : RawAt w v0 a) (h1 : RawAt w v1 b) (ha : sz W a.natAbs ≤ 549755813888) (hb : sz W b.natAbs ≤ 549755813888) :
    Calls Tryz.prog 94 #[v0, v1] w (RInt (a * b) w) := by
  obtain ⟨n0, s0, l0, rfl, a0, b0, c0, rfl⟩ := h0
  obtain ⟨n1, s1, l1, rfl, a1, b1, c1, rfl⟩ := h1
  rw [sg_natAbs] at ha hb
  have t0 : ∀ W : World, At W .u64 s0 l0 → Calls Tryz.prog 46 #[s0] W (fun e w' => e = .returned (cutTo s0 (strip l0).length) ∧ w' = W) := fun W h => trim_val s0 l0 W h
  have t1 : ∀ W : World, At W .u64 s1 l1 → Calls Tryz.prog 46 #[s1] W (fun e w' => e = .returned (cutTo s1 (strip l1).length) ∧ w' = W) := fun W h => trim_val s1 l1 W h
  have T0 := hid t0; have T1 := hid t1; clear t0 t1
  have d0 := hid (strip_dig W2 b0)
  have d1 := hid (strip_dig W2 b1)
  obtain ⟨r, hr⟩ : ∃ r, r = sg n0 (val W l0) * sg n1 (val W l1) := ⟨_, rfl⟩
  rw [← hr]
  have Hr : Hid (sg (n0 != n1) (val W l0 * val W l1) = r) := by unfold Hid; rw [sg_mul, hr]
  clear hr
  go_enter Tryz.func94, Tryz.ntmps94
  go_wp2_with fail
  generalize hW : World.alloc (World.alloc (World.alloc w _) _) _ = W3
  have bw : Below w.heap.size w W3 := by rw [← hW]; exact ((below1 _ _).alloc (by simp) _).alloc (by simp; omega) _
  have hp : Pair W3 (w.heap.size + 1 + 1) 35 := by rw [← hW]; exact Pair.new2 ..
  obtain ⟨c00, c01, c10, c11, -⟩ : Two W3 w.heap.size (.bool n0) s0 (.bool n1) s1 := by rw [← hW]; exact (Two.new w _ _ _ _ _).below (below1 _ _)
  have z3 : w.heap.size + 3 ≤ W3.heap.size := by rw [← hW]; simp
  have A0 : ∀ W', Below W3.heap.size W3 W' → At W' .u64 (cutTo s0 (strip l0).length) (dig W (val W l0)) := fun W' h' => by have := ((a0.below bw).below h').strip; rwa [d0.out] at this ⊢
  have A1 : ∀ W', Below W3.heap.size W3 W' → At W' .u64 (cutTo s1 (strip l1).length) (dig W (val W l1)) := fun W' h' => by have := ((a1.below bw).below h').strip; rwa [d1.out] at this ⊢
  have HA0 := hid A0; have HA1 := hid A1; have bw' := hid bw; have a0' := hid (a0.below bw); have a1' := hid (a1.below bw)
  clear hW bw A0 A1 a0 a1
  generalize cutTo s0 (strip l0).length = u0 at *
  generalize cutTo s1 (strip l1).length = u1 at *
  generalize val W l0 = x at *
  generalize val W l1 = y at *
  clear d0 d1 b0 b1 c0 c1
  go_region_held3 (fun w' => w'.cell? ⟨w.heap.size, 0, none⟩ = some (.bool n0) ∧ w'.cell? ⟨w.heap.size, 1, none⟩ = some s0 ∧ w'.cell? ⟨w.heap.size + 1, 0, none⟩ = some (.bool n1) ∧ w'.cell? ⟨w.heap.size + 1, 1, none⟩ = some s1 ∧ Pair w' (w.heap.size + 1 + 1) 35)
    (first | (go_split_ands; (try dsimp only); (repeat' apply And.intro) <;> first | assumption | exact Pair.drew ‹_› | exact Pair.below ‹_› hb9 | exact Pair.below ‹_› hb8 | exact Pair.below ‹_› hb7 | exact Pair.below ‹_› hb6 | exact Pair.below ‹_› hb5 | exact Pair.below ‹_› hb4 | exact Pair.below ‹_› hb3 | exact Pair.below ‹_› hb2 | exact Pair.below ‹_› hb1 | exact (hb9.cell (by first | omega | (simp; omega) | (simp; done))).trans ‹_› | exact (hb8.cell (by first | omega | (simp; omega) | (simp; done))).trans ‹_› | exact (hb7.cell (by first | omega | (simp; omega) | (simp; done))).trans ‹_› | exact (hb6.cell (by first | omega | (simp; omega) | (simp; done))).trans ‹_› | exact (hb5.cell (by first | omega | (simp; omega) | (simp; done))).trans ‹_› | exact (hb4.cell (by first | omega | (simp; omega) | (simp; done))).trans ‹_› | exact (hb3.cell (by first | omega | (simp; omega) | (simp; done))).trans ‹_› | exact (hb2.cell (by first | omega | (simp; omega) | (simp; done))).trans ‹_› | exact (hb1.cell (by first | omega | (simp; omega) | (simp; done))).trans ‹_› | exact Pair.set1 (Pair.set0 ‹_› _) _ _ _ | exact (cell_stored _ (by first | (dsimp only; omega) | (simp; done) | (simp; omega)) _ _).trans ‹_› | exact Pair.drew (Pair.below ‹_› (below1 _ _)) | exact Pair.below ‹_› (below1 _ _) | exact Pair.far ‹_› (by omega) hb1 | exact Pair.new .. | exact Pair.new1 .. | exact Pair.new2 .. | (go_keep; done)) | (go_keep; done))
    (first
      | (go_at_call_of 46 (s0); refine (T0.out _ a0'.out.drew).mono ?_; rintro e w' ⟨rfl, rfl⟩)
      | (go_at_call_of 46 (s1); refine (T1.out _ a1'.out.drew).mono ?_; rintro e w' ⟨rfl, rfl⟩)
      | (go_at_call 113; refine (times_any u0 u1 x y _ (HA0.out _ (Below.drew (Below.refl _ _))) (HA1.out _ (Below.drew (Below.refl _ _))) ha hb).mono ?_; rintro e w1 ⟨v1, rfl, ho1, hb1⟩; have hz1 : w.heap.size + 3 ≤ w1.heap.size := (by have := hb1.size; simp at this; omega))
      | (go_at_call 72; refine (told_any (n0 != n1) _ _ _ ho1).mono ?_; rintro e w2 ⟨v2, rfl, hi2, hb2⟩; obtain ⟨p2, n2, c2, rfl, hi2⟩ := hi2.shape; have hpr := Pair.below (by go_split_ands; assumption) hb2; obtain ⟨_, _, q0, q1, q2, q3⟩ := hpr.cells))
  go_wp2
  exact bodyPost_ret (v := .agg #[.bool (decide (sg (n0 != n1) (x * y) < 0)), .slice p2 n2 c2]) (by simp [results, Tryz.results94, go_sem, q0, q1]) rfl
    ⟨_, rfl, by rw [← Hr.out]; exact hi2.stored hpr _ _ _ _, Below.stored ((bw'.out.drew.trans (hb1.mono (B' := w.heap.size) (by simp; omega))).trans (hb2.mono (B' := w.heap.size) (by omega))) (by omega) _ _⟩
end Go.Proofs.YtnfohbpgnbfmeaaGreatDoor
/- Division as on paper: plain numbers. -/
namespace Go.Proofs.YtnfohbpgnbfmeaaGreatDoor.Big

/-- the guess from the highest halves: right, or one too often -/
theorem guess_ok {P low lowb R T r0 r1 r2 t0 t1 h q : Nat} (hl : low < P) (hlb : lowb < P) (hR : R = r0 + H * r1 + H * H * r2) (hT : T = t0 + H * t1)
    (h0 : r0 < H) (h1 : r1 < H) (ht0 : t0 < H) (ht : 2147483648 ≤ t1) (hlt : low + P * R < (lowb + P * T) * H) (hh : h = (r2 * H + r1) / t1) (hq : q = (low + P * R) / (lowb + P * T)) :
    q < H ∧ h ≤ H + 1 ∧ ((H ≤ h ∨ R < h * T) → q ≤ h - 1 ∧ h - 1 ≤ q + 1 ∧ h - 1 ≤ H ∧ 0 < h) ∧ (h < H → h * T ≤ R → q ≤ h ∧ h ≤ q + 1) := by
  have hH : H = 4294967296 := rfl
  have hB : 0 < lowb + P * T := by
    have : 0 < T := by rw [hT]; have : H * 2147483648 ≤ H * t1 := Nat.mul_le_mul_left _ ht; omega
    have : 0 < P * T := Nat.mul_pos (by omega) this
    omega
  have q1 : q < H := by rw [hq, Nat.div_lt_iff_lt_mul hB]; rw [Nat.mul_comm H]; exact hlt
  have hqB : q * (lowb + P * T) ≤ low + P * R := by rw [hq]; exact Nat.div_mul_le_self _ _
  have lower : ∀ k, k * (T + 1) ≤ R → k ≤ q := fun k hk => by
    rw [hq, Nat.le_div_iff_mul_le hB]
    have e1 : k * (lowb + P * T) ≤ k * (P * (T + 1)) := Nat.mul_le_mul_left _ (by rw [Nat.mul_add]; omega)
    have e2 : k * (P * (T + 1)) = P * (k * (T + 1)) := by grind
    have e3 : P * (k * (T + 1)) ≤ P * R := Nat.mul_le_mul_left _ hk
    omega
  have qT : q * T ≤ R := by
    have e1 : P * (q * T) ≤ low + P * R := by
      have : P * (q * T) = q * (P * T) := by grind
      have : q * (P * T) ≤ q * (lowb + P * T) := Nat.mul_le_mul_left _ (by omega)
      omega
    have e2 : P * (q * T) < P * (R + 1) := by rw [Nat.mul_add]; omega
    have := Nat.lt_of_mul_lt_mul_left e2
    omega
  have r2t : r2 ≤ t1 := by
    have e1 : P * (H * H * r2) ≤ P * R := Nat.mul_le_mul_left _ (by rw [hR]; omega)
    have e2 : (lowb + P * T) * H < P * (H * H * (t1 + 1)) := by
      have a1 : lowb + P * T < P * (H * (t1 + 1)) := by
        have : T + 1 ≤ H * (t1 + 1) := by rw [hT, Nat.mul_add]; omega
        have : P * (T + 1) ≤ P * (H * (t1 + 1)) := Nat.mul_le_mul_left _ this
        rw [Nat.mul_add] at this; omega
      have a2 : (lowb + P * T) * H < P * (H * (t1 + 1)) * H := Nat.mul_lt_mul_of_pos_right a1 (by omega)
      have a3 : P * (H * (t1 + 1)) * H = P * (H * H * (t1 + 1)) := by grind
      omega
    have e3 : P * (H * H * r2) < P * (H * H * (t1 + 1)) := by omega
    have e4 := Nat.lt_of_mul_lt_mul_left e3
    have e5 := Nat.lt_of_mul_lt_mul_left e4
    omega
  have hle : h ≤ H + 1 := by
    have : h < H + 2 := by
      rw [hh, Nat.div_lt_iff_lt_mul (by omega)]
      have e1 : r2 * H ≤ t1 * H := Nat.mul_le_mul_right _ r2t
      have e2 : (H + 2) * t1 = t1 * H + 2 * t1 := by grind
      rw [e2]; omega
    omega
  have hht : h * t1 ≤ r2 * H + r1 := by rw [hh]; exact Nat.div_mul_le_self _ _
  have hRh : R = (r2 * H + r1) * H + r0 := by rw [hR]; grind
  refine ⟨q1, hle, fun hc => ?_, fun hc1 hc2 => ?_⟩
  · have qh : q < h := by
      rcases hc with hc | hc
      · omega
      · have : q * T < h * T := by omega
        exact Nat.lt_of_mul_lt_mul_right this
    refine ⟨by omega, ?_, by omega, by omega⟩
    by_cases h2 : 2 ≤ h
    · have := lower (h - 2) (by
        obtain ⟨k, rfl⟩ : ∃ k, h = k + 2 := ⟨h - 2, by omega⟩
        have ek : k + 2 - 2 = k := by omega
        rw [ek]
        have e1 : k * (T + 1) ≤ k * (t1 * H + H) := Nat.mul_le_mul_left _ (by rw [hT, Nat.mul_comm H t1]; omega)
        have e2 : k * (t1 * H + H) + 2 * t1 * H = (k + 2) * t1 * H + k * H := by grind
        have e3 : (k + 2) * t1 * H ≤ (r2 * H + r1) * H := Nat.mul_le_mul_right _ hht
        have e4 : k * H ≤ 2 * t1 * H := Nat.mul_le_mul_right _ (by omega)
        omega)
      omega
    · omega
  · refine ⟨?_, ?_⟩
    · have : q * t1 ≤ r2 * H + r1 := by
        have e1 : q * T ≤ (r2 * H + r1) * H + r0 := by rw [← hRh]; exact qT
        have e2 : q * t1 * H ≤ q * T := by
          have : q * T = q * t0 + q * t1 * H := by rw [hT]; grind
          omega
        have e3 : q * t1 * H < (r2 * H + r1 + 1) * H := by rw [Nat.add_mul (r2 * H + r1) 1 H]; omega
        have := Nat.lt_of_mul_lt_mul_right e3
        omega
      rw [hh, Nat.le_div_iff_mul_le (by omega)]; exact this
    · by_cases h1' : 1 ≤ h
      · have := lower (h - 1) (by
          obtain ⟨k, rfl⟩ : ∃ k, h = k + 1 := ⟨h - 1, by omega⟩
          have ek : k + 1 - 1 = k := by omega
          rw [ek]
          have e1 : k * (T + 1) + T = (k + 1) * T + k := by grind
          have e2 : H ≤ T := by rw [hT]; have : H * 1 ≤ H * t1 := Nat.mul_le_mul_left _ (by omega); omega
          omega)
        omega
      · omega
end Go.Proofs.YtnfohbpgnbfmeaaGreatDoor.Big
/- whole.guess. -/
namespace Go.Proofs.YtnfohbpgnbfmeaaGreatDoor
open Go.RowKit Big

/-- cells of a window of a row -/
def Win (w : World) (g off : Nat) (l : List Nat) : Prop := ∀ j (h : j < l.length), w.cell? ⟨g, off + j, none⟩ = some (.int .u32 (l[j]'h : Nat))

theorem val_top3 (B : Nat) (L : List Nat) (m : Nat) (h : L.length = m + 3) : val B L = val B (L.take m) + B ^ m * (L[m]'(by omega) + B * L[m + 1]'(by omega) + B * B * L[m + 2]'(by omega)) := by
  have e := val_take_succ B L (m + 2) (by omega)
  rw [show m + 2 + 1 = L.length by omega, List.take_length, val_take_succ B L (m + 1) (by omega), val_take_succ B L m (by omega), Nat.pow_succ, Nat.pow_succ] at e
  rw [e]; grind
theorem val_top2 (B : Nat) (L : List Nat) (m : Nat) (h : L.length = m + 2) : val B L = val B (L.take m) + B ^ m * (L[m]'(by omega) + B * L[m + 1]'(by omega)) := by
  have e := val_take_succ B L (m + 1) (by omega)
  rw [show m + 1 + 1 = L.length by omega, List.take_length, val_take_succ B L m (by omega), Nat.pow_succ] at e
  rw [e]; grind
theorem val_take_lt {L : List Nat} (s : Small H L) (m : Nat) (h : m ≤ L.length) : val H (L.take m) < H ^ m := by
  have := val_lt (B := H) (by decide) (small_take s m)
  rwa [List.length_take, Nat.min_eq_left h] at this
theorem drewN_twice (w : World) (a b : Nat) : (w.drewN a).drewN b = w.drewN (a + b) := by simp [World.drewN, Nat.add_assoc]
def RGuess (v d : Nat) (w : World) (e : Ending) (w' : World) : Prop := ∃ (k n : Nat), e = .returned (.int .u64 (k : Nat)) ∧ w' = w.drewN n ∧ k ≤ H ∧ (v / d = k ∨ v / d + 1 = k)

set_option maxRecDepth 100000 in
set_option maxHeartbeats 1600000 in
theorem guess_any (g off cap g' off' cap' m : Nat) (L B : List Nat) (w : World) (hL : L.length = m + 3) (hB : B.length = m + 2) (hw : Win w g off L) (hw' : Win w g' off' B) (sL : Small H L) (sB : Small H B)
    (ht : 2147483648 ≤ B[m + 1]'(by omega)) (hlt : val H L < val H B * H) (hc' : m + 2 ≤ cap') (hcm' : cap' ≤ 9223372036854775807) :
    Calls Tryz.prog 149 #[.slice (some ⟨g, off, none⟩) (m + 3) cap, .slice (some ⟨g', off', none⟩) (m + 2) cap'] w (RGuess (val H L) (val H B) w) := by
  have eL := val_top3 H L m hL
  have eB := val_top2 H B m hB
  have lL := val_take_lt sL m (by omega)
  have lB := val_take_lt sB m (by omega)
  have e2 := hw (m + 2) (by omega)
  have e1 := hw (m + 1) (by omega)
  have e0 := hw m (by omega)
  have f1 := hw' (m + 1) (by omega)
  have f0 := hw' m (by omega)
  have s2 := small_get sL (m + 2) (by omega)
  have s1 := small_get sL (m + 1) (by omega)
  have s0 := small_get sL m (by omega)
  have u1 := small_get sB (m + 1) (by omega)
  have u0 := small_get sB m (by omega)
  generalize L[m + 2]'(by omega) = r2 at *
  generalize L[m + 1]'(by omega) = r1 at *
  generalize L[m]'(by omega) = r0 at *
  generalize B[m + 1]'(by omega) = t1 at *
  generalize B[m]'(by omega) = t0 at *
  generalize val H (L.take m) = low at *
  generalize val H (B.take m) = lowb at *
  generalize val H L = vL at *
  generalize val H B = vB at *
  generalize H ^ m = P at *
  subst eL
  subst eB
  have M := fun h q => guess_ok (q := q) (h := h) lL lB rfl rfl s0 s1 u0 ht hlt
  obtain ⟨vq, hvq⟩ : ∃ q, q = (low + P * (r0 + H * r1 + H * H * r2)) / (lowb + P * (t0 + H * t1)) := ⟨_, rfl⟩
  have HM := hid M
  have Hvq := hid hvq
  unfold RGuess
  rw [← hvq]
  clear M hvq hlt lL lB
  unfold H at s2 s1 s0 u1 u0
  clear hw hw'
  go_enter Tryz.func149, Tryz.ntmps149
  go_wp2_with fail
  go_quiet (fail)
  rw [or_half r2 r1 (by omega) (by omega)]
  obtain ⟨hd, hhd⟩ : ∃ hd, hd = r2 * 4294967296 + r1 := ⟨_, rfl⟩
  rw [← hhd]
  have Hhd := hid hhd
  have hdl : hd ≤ 18446744073709551615 := by omega
  have htz : ((t1 : Int) == 0) = false := beq_eq_false_iff_ne.2 (by omega)
  clear hhd
  obtain ⟨q, hq⟩ : ∃ q, q = hd / t1 := ⟨_, rfl⟩
  obtain ⟨left, hleft⟩ : ∃ q, q = hd % t1 := ⟨_, rfl⟩
  have ql : q ≤ 18446744073709551615 := by rw [hq]; exact Nat.le_trans (Nat.div_le_self _ _) hdl
  have d1 : (hd : Int) / (t1 : Int) = (q : Int) := by rw [hq]; rfl
  have d2 : (hd : Int) % (t1 : Int) = (left : Int) := by rw [hleft]; rfl
  have ll : left < t1 := by rw [hleft]; exact Nat.mod_lt _ (by omega)
  have Hq := hid hq; have Hleft := hid hleft
  have D1 := hid d1; have D2 := hid d2
  clear hq hleft d1 d2
  go_wp2_with fail
  go_quiet (fail)
  rw [D1.out, D2.out, wrap_nat q (by unfold W; omega)]
  by_cases hge : H ≤ q
  · have hb : ((q : Int) / 4294967296 == 0) = false := beq_eq_false_iff_ne.2 (by unfold H at hge; omega)
    have hb' : ((q : Int) / 4294967296 != 0) = true := by simp [bne, hb]
    have hq1 : 1 ≤ (q : Int) := by unfold H at hge; omega
    go_wp2_with fail
    go_quiet (fail)
    obtain ⟨m1, m2, m3, m4⟩ := HM.out q vq (by rw [Hq.out, Hhd.out]; rfl) Hvq.out
    obtain ⟨m5, m6, m7, m8⟩ := m3 (Or.inl hge)
    have e1 : ((q : Int) - 1) = ((q - 1 : Nat) : Int) := by omega
    have E1 := hid e1
    clear e1 m1 m2 m3 m4
    go_wp2_with fail
    go_ret
    exact ⟨q - 1, _, by rw [← E1.out]; rfl, rfl, by omega, by omega⟩
  · have hb : ((q : Int) / 4294967296 == 0) = true := beq_iff_eq.2 (by unfold H at hge; omega)
    have hb' : ((q : Int) / 4294967296 != 0) = false := by simp [bne, hb]
    have hqs : q < 4294967296 := by unfold H at hge; omega
    have hp : q * t0 ≤ 4294967295 * 4294967295 := Nat.mul_le_mul (by omega) (by omega)
    have q1 : (q : Int) * (t0 : Int) ≤ 18446744065119617025 := by
      have : ((q * t0 : Nat) : Int) ≤ 18446744065119617025 := by omega
      rwa [Int.natCast_mul] at this
    have q2 : 0 ≤ (q : Int) * (t0 : Int) := by rw [← Int.natCast_mul]; omega
    obtain ⟨m1, m2, m3, m4⟩ := HM.out q vq (by rw [Hq.out, Hhd.out]; rfl) Hvq.out
    have hRT : r0 + H * r1 + H * H * r2 < q * (t0 + H * t1) ↔ left * 4294967296 + r0 < q * t0 := by
      have e : hd = t1 * q + left := by rw [Hq.out, Hleft.out]; exact (Nat.div_add_mod hd t1).symm
      have e1 : r0 + H * r1 + H * H * r2 = (hd * H) + r0 := by rw [Hhd.out]; unfold H; grind
      have e2 : hd * H = q * (H * t1) + left * 4294967296 := by rw [e]; unfold H; grind
      rw [e1, e2, Nat.mul_add]; omega
    have hor := or_half left r0 (by omega) (by omega)
    by_cases hc : left * 4294967296 + r0 < q * t0
    · obtain ⟨m5, m6, m7, m8⟩ := m3 (Or.inr (hRT.2 hc))
      have hci : ((left * 4294967296 + r0 : Nat) : Int) < (q : Int) * (t0 : Int) := by rw [← Int.natCast_mul]; omega
      have e1 : ((q : Int) - 1) = ((q - 1 : Nat) : Int) := by omega
      have hq1 : 1 ≤ (q : Int) := by omega
      have E1 := hid e1; have Hor := hid hor; have Hci := hid hci
      obtain ⟨tst, htst⟩ : ∃ b, b = decide (bits BinOp.or IntKind.u64 ((left : Int) * 4294967296) (r0 : Int) < (q : Int) * (t0 : Int)) := ⟨_, rfl⟩
      have Ht : Hid (tst = true) := by unfold Hid; rw [htst, hor]; exact decide_eq_true hci
      clear e1 hor hci m1 m2 m3 m4 hRT hc htst
      go_wp2_with fail
      go_quiet (fail)
      rw [Hor.out]
      have hci := Hci.out
      go_wp2_with fail
      go_ret
      exact ⟨q - 1, _, by rw [← E1.out]; rfl, rfl, by omega, by omega⟩
    · obtain ⟨m5, m6⟩ := m4 (by omega) (by have := mt hRT.1 hc; omega)
      have hci : ¬ ((left * 4294967296 + r0 : Nat) : Int) < (q : Int) * (t0 : Int) := by rw [← Int.natCast_mul]; omega
      have Hor := hid hor; have Hci := hid hci
      clear hor hci m1 m2 m3 m4 hRT hc
      go_wp2_with fail
      go_quiet (fail)
      rw [Hor.out]
      have hci := Hci.out
      go_wp2_with fail
      go_ret
      exact ⟨q, _, rfl, drewN_twice .., by omega, by omega⟩
end Go.Proofs.YtnfohbpgnbfmeaaGreatDoor
/- whole.lessBy, whole.moreBy: in place, in the midst of a row. -/
namespace Go.Proofs.YtnfohbpgnbfmeaaGreatDoor
open Go.RowKit Big

theorem less_step {vX vL vB o x c b r P k d b' : Nat} (hP : P = o * x + c) (h : vX + o * vB = vL + (c + b) * H ^ k) (hd : d + P % H + b = r + b' * H) :
    (vX + H ^ k * d) + o * (vB + H ^ k * x) = (vL + H ^ k * r) + (P / H + b') * H ^ (k + 1) := by
  have e : P = H * (P / H) + P % H := (Nat.div_add_mod P H).symm
  rw [Nat.pow_succ]
  generalize P / H = q at *
  generalize P % H = p at *
  have e1 : o * x + c = H * q + p := by rw [← hP, e]
  have e2 : H ^ k * (d + p + b) = H ^ k * (r + b' * H) := by rw [hd]
  have e3 : H ^ k * (o * x + c) = H ^ k * (H * q + p) := by rw [e1]
  generalize H ^ k = K at *
  simp only [Nat.mul_add] at e2 e3
  have g1 : o * (K * x) = K * (o * x) := Nat.mul_left_comm ..
  have g2 : (c + b) * K = K * c + K * b := by rw [Nat.mul_comm, Nat.mul_add]
  have g3 : (q + b') * (K * H) = K * (H * q) + K * (b' * H) := by rw [Nat.add_mul, Nat.mul_left_comm q K H, Nat.mul_left_comm b' K H, Nat.mul_comm q H]
  rw [Nat.mul_add, g1, g3]
  rw [g2] at h
  omega
theorem wrap_up (x : Int) (h0 : 0 ≤ x) (h1 : x < 18446744073709551616) : IntKind.u64.wrap x = x := by
  simp only [IntKind.wrap, IntKind.bits, IntKind.signed]; simp; omega
theorem wrap_down (x : Int) (h0 : -18446744073709551616 ≤ x) (h1 : x < 0) : IntKind.u64.wrap x = x + 18446744073709551616 := by
  simp only [IntKind.wrap, IntKind.bits, IntKind.signed]; simp; omega
/-- the digit that is left, and what is borrowed -/
theorem left_digit (r p b : Nat) (hr : r < 4294967296) (hp : p < 4294967296) (hb : b ≤ 1) : ∃ d b', d < 4294967296 ∧ b' ≤ 1 ∧ d + p + b = r + b' * 4294967296 ∧
    IntKind.u64.wrap (IntKind.u64.wrap ((r : Int) - (p : Int)) - (b : Int)) % 4294967296 = (d : Int) ∧ IntKind.u64.wrap (IntKind.u64.wrap ((r : Int) - (p : Int)) - (b : Int)) / 9223372036854775808 = (b' : Int) := by
  by_cases h : p + b ≤ r
  · refine ⟨r - p - b, 0, by omega, by omega, by omega, ?_⟩
    rw [wrap_up ((r : Int) - (p : Int)) (by omega) (by omega), wrap_up _ (by omega) (by omega)]
    have e : (r : Int) - (p : Int) - (b : Int) = ((r - p - b : Nat) : Int) := by omega
    rw [e]
    have l : r - p - b < 4294967296 := by omega
    generalize r - p - b = t at *
    exact ⟨by omega, by omega⟩
  · refine ⟨r + 4294967296 - p - b, 1, by omega, by omega, by omega, ?_⟩
    have hw : IntKind.u64.wrap (IntKind.u64.wrap ((r : Int) - (p : Int)) - (b : Int)) = (r : Int) - (p : Int) - (b : Int) + 18446744073709551616 := by
      by_cases h2 : p ≤ r
      · rw [wrap_up ((r : Int) - (p : Int)) (by omega) (by omega), wrap_down _ (by omega) (by omega)]
      · rw [wrap_down ((r : Int) - (p : Int)) (by omega) (by omega), wrap_up _ (by omega) (by omega)]; omega
    rw [hw]
    have e : (r : Int) - (p : Int) - (b : Int) = ((r + 4294967296 - p - b : Nat) : Int) - 4294967296 := by omega
    rw [e]
    have l : r + 4294967296 - p - b < 4294967296 := by omega
    generalize r + 4294967296 - p - b = t at *
    exact ⟨by omega, by omega⟩

theorem less_last {vX vL vB o c b r d b' K : Nat} (h : vX + o * vB = vL + (c + b) * K) (hd : d + c + b = r + b' * 4294967296) : (vX + K * d) + o * vB = (vL + K * r) + b' * (K * H) := by
  have e : K * (d + c + b) = K * (r + b' * H) := by rw [hd]; rfl
  simp only [Nat.mul_add] at e
  have g : (c + b) * K = K * c + K * b := by rw [Nat.mul_comm, Nat.mul_add]
  have g2 : b' * (K * H) = K * (b' * H) := Nat.mul_left_comm ..
  omega
theorem less_bool {vX vL p K b : Nat} (h : vX + p = vL + b * K) (hx : vX < K) (hb : b ≤ 1) : b = if vL < p then 1 else 0 := by
  rcases (by omega : b = 0 ∨ b = 1) with rfl | rfl
  · rw [if_neg (by omega)]
  · rw [if_pos (by omega)]
theorem row_set {α : Type} (R X : List α) (i k : Nat) (d : α) (hX : X.length = k) (h : i + k < R.length) : (R.take i ++ X ++ R.drop (i + k)).set (i + k) d = R.take i ++ (X ++ [d]) ++ R.drop (i + (k + 1)) := by
  rw [List.set_append_right _ _ (by simp; omega)]
  have e : i + k - (R.take i ++ X).length = 0 := by simp; omega
  rw [e, List.drop_eq_getElem_cons h, List.set_cons_zero]
  simp [Nat.add_assoc]

def RLess (B0 g N cap i m o : Nat) (R L Bl : List Nat) (w : World) (e : Ending) (w' : World) : Prop :=
  ∃ X, X.length = m + 1 ∧ Small H X ∧ e = .returned (.bool (decide (val H L < o * val H Bl))) ∧
      val H X + o * val H Bl = val H L + (if val H L < o * val H Bl then H ^ (m + 1) else 0) ∧ Own w' B0 157 .u32 (.slice (some ⟨g, 0, none⟩) N cap) (R.take i ++ X ++ R.drop (i + m + 1)) ∧ w.grownBy w' (some g)

set_option maxRecDepth 100000 in
set_option maxHeartbeats 3200000 in
theorem lessBy_any (B0 g N cap i m cw g' off' cb o : Nat) (R L Bl : List Nat) (w : World) (hown : Own w B0 157 .u32 (.slice (some ⟨g, 0, none⟩) N cap) R) (hN : R.length = N) (hi : i + m + 1 ≤ N) (hL : L = (R.drop i).take (m + 1))
    (hBl : Bl.length = m) (hw : Win w g' off' Bl) (hgg : g' ≠ g) (sR : Small H R) (sB : Small H Bl) (ho : o ≤ H) (hNm : N ≤ 9223372036854775806) :
    Calls Tryz.prog 150 #[.slice (some ⟨g, i, none⟩) (m + 1) cw, .slice (some ⟨g', off', none⟩) m cb, .int .u64 (o : Nat)] w (RLess B0 g N cap i m o R L Bl w) := by
  have HL := hid hL
  have HN := hid hN
  have HBl := hid hBl
  have Hw := hid hw
  clear hL hN hBl hw
  unfold H at ho
  go_enter Tryz.func150, Tryz.ntmps150
  go_wp2_with fail
  go_loopw [7, 8, 16] (fun c b j wr => ∃ (k c' b' : Nat) (X : List Nat), k ≤ m ∧ j = .int .i64 (k : Nat) ∧ c = .int .u64 (c' : Nat) ∧ c' < 4294967296 ∧ b = .int .u64 (b' : Nat) ∧ b' ≤ 1 ∧ Hid (X.length = k) ∧ Small H X ∧
      Own wr B0 157 .u32 (.slice (some ⟨g, 0, none⟩) N cap) (R.take i ++ X ++ R.drop (i + k)) ∧ Hid (val H X + o * val H (Bl.take k) = val H (L.take k) + (c' + b') * H ^ k) ∧ w.grownBy wr (some g)) (fun _ _ j _ => m - (intOf j).toNat)
  case atStart => exact ⟨0, 0, 0, [], Nat.zero_le _, rfl, rfl, by omega, rfl, by omega, rfl, small_nil _, by simpa using hown, by unfold Hid; simp [val], World.grownBy.refl _ _⟩
  case round =>
    obtain ⟨k, c', b', X, hk, rfl, rfl, hc', rfl, hb', hX, sX, hown', hv, hgr⟩ := hrel
    by_cases hkm : k < m
    · have hlen : (R.take i ++ X ++ R.drop (i + k)).length = N := by have := HN.out; have := hX.out; simp; omega
      have hkq : i + k < (R.take i ++ X ++ R.drop (i + k)).length := by omega
      obtain ⟨cc0, f0⟩ := hown'.cell (i + k) hkq
      have hiR : i + k < R.length := by rw [HN.out]; omega
      have eq1 : (R.take i ++ X ++ R.drop (i + k))[i + k] = R[i + k] := by
        have h1 := hX.out
        rw [List.getElem_append_right (by simp; omega)]
        simp only [List.getElem_drop]
        congr 1
        simp; omega
      rw [eq1] at cc0
      have r0 := small_get sR (i + k) hiR
      have hkB : k < Bl.length := by rw [HBl.out]; omega
      have e1 := (hgr.block g' (World.block_lt_of_cell? w _ (Hw.out k hkB)) (by simp; omega))
      have e2 : wr.cell? ⟨g', off' + k, none⟩ = some (.int .u32 (Bl[k] : Nat)) := (World.cell?_of_block (w := w) e1).trans (Hw.out k hkB)
      have x0 := small_get sB k hkB
      obtain ⟨r, hr⟩ : ∃ r, r = R[i + k] := ⟨_, rfl⟩
      obtain ⟨x, hx⟩ : ∃ x, x = Bl[k] := ⟨_, rfl⟩
      rw [← hr] at cc0 r0
      rw [← hx] at e2 x0
      unfold H at r0 x0
      have Hr := hid hr; have Hx := hid hx; have Hlen := hid hlen; have Heq := hid eq1
      clear hr hx hlen eq1 e1
      have p0 : o * x + c' ≤ 4294967296 * 4294967295 + 4294967295 := Nat.add_le_add (Nat.mul_le_mul ho (by omega)) (by omega)
      obtain ⟨P, hP⟩ : ∃ P, P = o * x + c' := ⟨_, rfl⟩
      rw [← hP] at p0
      have q1 : (o : Int) * (x : Int) ≤ 18446744069414584320 := by
        have : ((o * x : Nat) : Int) ≤ 18446744069414584320 := by have := Nat.mul_le_mul ho (show x ≤ 4294967295 by omega); omega
        rwa [Int.natCast_mul] at this
      have q2 : 0 ≤ (o : Int) * (x : Int) := by rw [← Int.natCast_mul]; omega
      have q3 : (o : Int) * (x : Int) + (c' : Int) = (P : Int) := by rw [hP]; simp
      have q4 : (o : Int) * (x : Int) + (c' : Int) ≤ 18446744073709551615 := by rw [q3]; omega
      have HP := hid hP; have Q3 := hid q3
      clear hP q3
      go_wp2
      have r1 : ((o : Int) * (x : Int) + (c' : Int)) / 4294967296 = ((P / 4294967296 : Nat) : Int) := by rw [Q3.out]; omega
      have r2 : ((o : Int) * (x : Int) + (c' : Int)) % 4294967296 = ((P % 4294967296 : Nat) : Int) := by rw [Q3.out]; omega
      rw [r1, r2]
      obtain ⟨d, b2, hd, hb2, hdd, w1, w2⟩ := left_digit r (P % 4294967296) b' r0 (Nat.mod_lt _ (by decide)) hb'
      rw [w1, w2]
      have hq : P / 4294967296 < 4294967296 := by omega
      have hset := hown'.set (i + k) d
      rw [row_set R X i k d hX.out hiR] at hset
      have hLk : L[k]'(by rw [HL.out]; simp; omega) = r := by rw [Hr.out]; simp [HL.out]
      have hv' : val H (X ++ [d]) + o * val H (Bl.take (k + 1)) = val H (L.take (k + 1)) + (P / 4294967296 + b2) * H ^ (k + 1) := by
        rw [val_snoc, hX.out, val_take_succ H Bl k hkB, ← Hx.out, val_take_succ H L k (by rw [HL.out]; simp; omega), hLk]
        exact less_step HP.out hv.out hdd
      clear w1 w2 r1 r2 hLk
      go_roundw
      case rel => exact ⟨k + 1, P / 4294967296, b2, X ++ [d], by omega, by go_num, rfl, hq, rfl, hb2, by have := hX.out; unfold Hid; simp; omega, small_snoc sX hd, hset.1, hv', grown_trans hgr hset.2⟩
      case measure => (simp [intOf] <;> omega)
    · obtain rfl : k = m := by omega
      have hlen : (R.take i ++ X ++ R.drop (i + k)).length = N := by have := HN.out; have := hX.out; simp; omega
      have hkq : i + k < (R.take i ++ X ++ R.drop (i + k)).length := by omega
      obtain ⟨cc0, f0⟩ := hown'.cell (i + k) hkq
      have hiR : i + k < R.length := by rw [HN.out]; omega
      have eq1 : (R.take i ++ X ++ R.drop (i + k))[i + k] = R[i + k] := by
        have h1 := hX.out
        rw [List.getElem_append_right (by simp; omega)]
        simp only [List.getElem_drop]
        congr 1
        simp; omega
      rw [eq1] at cc0
      have r0 := small_get sR (i + k) hiR
      obtain ⟨r, hr⟩ : ∃ r, r = R[i + k] := ⟨_, rfl⟩
      rw [← hr] at cc0 r0
      unfold H at r0
      have hLk : L[k]'(by rw [HL.out]; simp; omega) = r := by rw [hr]; simp [HL.out]
      obtain ⟨d, b2, hd, hb2, hdd, w1, w2⟩ := left_digit r c' b' r0 hc' hb'
      have hset := hown'.set (i + k) d
      rw [row_set R X i k d hX.out hiR] at hset
      have hv' : val H (X ++ [d]) + o * val H Bl = val H L + b2 * H ^ (k + 1) := by
        have e1 := val_take_succ H L k (by rw [HL.out]; simp; omega)
        rw [show L.take (k + 1) = L by rw [List.take_of_length_le]; rw [HL.out]; simp; omega, hLk] at e1
        have e2 := hv.out
        rw [show Bl.take k = Bl by rw [List.take_of_length_le]; rw [HBl.out]; exact Nat.le_refl _] at e2
        rw [val_snoc, hX.out, e1]
        rw [Nat.pow_succ]; exact less_last e2 hdd
      have hlt : val H (X ++ [d]) < H ^ (k + 1) := by
        have := val_lt (B := H) (by decide) (small_snoc sX hd)
        rwa [List.length_append, hX.out] at this
      have hb2' : b2 = if val H L < o * val H Bl then 1 else 0 := less_bool hv' hlt hb2
      have HV := hid hv'; have Hset := hid hset; have W1 := hid w1; have W2 := hid w2; have Hb2 := hid hb2'; have Hlen := hid hlen; have Heq := hid eq1; have Hhlt := hid hlt
      clear hr hLk hv' hset w1 w2 hb2' hdd hlen eq1 hlt
      go_wp2
      rw [W1.out, W2.out]
      go_ret
      have hset := Hset.out
      have hv := HV.out
      have hb := Hb2.out
      by_cases hlt : val H L < o * val H Bl
      · rw [if_pos hlt] at hb
        subst hb
        refine ⟨X ++ [d], by simp [hX.out], small_snoc sX hd, ?_, ?_, hset.1, grown_trans hgr hset.2⟩
        · rw [decide_eq_true hlt]; rfl
        · rw [if_pos hlt]; omega
      · rw [if_neg hlt] at hb
        subst hb
        refine ⟨X ++ [d], by simp [hX.out], small_snoc sX hd, ?_, ?_, hset.1, grown_trans hgr hset.2⟩
        · rw [decide_eq_false hlt]; rfl
        · rw [if_neg hlt]; omega

theorem more_step {vX vL vB x c r P K : Nat} (hP : P = r + x + c) (h : vX + c * K = vL + vB) : (vX + K * (P % H)) + P / H * (K * H) = (vL + K * r) + (vB + K * x) := by
  have e : P = H * (P / H) + P % H := (Nat.div_add_mod P H).symm
  generalize P / H = q at *
  generalize P % H = p at *
  have e1 : K * (r + x + c) = K * (H * q + p) := by rw [← hP, e]
  simp only [Nat.mul_add] at e1
  have g1 : q * (K * H) = K * (H * q) := by rw [Nat.mul_left_comm, Nat.mul_comm q H]
  have g2 : c * K = K * c := Nat.mul_comm ..
  omega
def RMore (B0 g N cap i m : Nat) (R L Bl : List Nat) (w : World) (e : Ending) (w' : World) : Prop :=
  ∃ X c, e = .returned (.tuple #[]) ∧ X.length = m + 1 ∧ Small H X ∧ val H X + c * H ^ (m + 1) = val H L + val H Bl ∧ Own w' B0 157 .u32 (.slice (some ⟨g, 0, none⟩) N cap) (R.take i ++ X ++ R.drop (i + m + 1)) ∧ w.grownBy w' (some g)

set_option maxRecDepth 100000 in
set_option maxHeartbeats 3200000 in
theorem moreBy_any (B0 g N cap i m cw g' off' cb : Nat) (R L Bl : List Nat) (w : World) (hown : Own w B0 157 .u32 (.slice (some ⟨g, 0, none⟩) N cap) R) (hN : R.length = N) (hi : i + m + 1 ≤ N) (hL : L = (R.drop i).take (m + 1))
    (hBl : Bl.length = m) (hw : Win w g' off' Bl) (hgg : g' ≠ g) (sR : Small H R) (sB : Small H Bl) (hNm : N ≤ 9223372036854775806) :
    Calls Tryz.prog 151 #[.slice (some ⟨g, i, none⟩) (m + 1) cw, .slice (some ⟨g', off', none⟩) m cb] w (RMore B0 g N cap i m R L Bl w) := by
  have HL := hid hL
  have HN := hid hN
  have HBl := hid hBl
  have Hw := hid hw
  clear hL hN hBl hw
  go_enter Tryz.func151, Tryz.ntmps151
  go_wp2_with fail
  go_loopw [4, 10] (fun c j wr => ∃ (k c' : Nat) (X : List Nat), k ≤ m ∧ j = .int .i64 (k : Nat) ∧ c = .int .u64 (c' : Nat) ∧ c' ≤ 1 ∧ Hid (X.length = k) ∧ Small H X ∧
      Own wr B0 157 .u32 (.slice (some ⟨g, 0, none⟩) N cap) (R.take i ++ X ++ R.drop (i + k)) ∧ Hid (val H X + c' * H ^ k = val H (L.take k) + val H (Bl.take k)) ∧ w.grownBy wr (some g)) (fun _ j _ => m - (intOf j).toNat)
  case atStart => exact ⟨0, 0, [], Nat.zero_le _, rfl, rfl, by omega, rfl, small_nil _, by simpa using hown, by unfold Hid; simp [val], World.grownBy.refl _ _⟩
  case round =>
    obtain ⟨k, c', X, hk, rfl, rfl, hc', hX, sX, hown', hv, hgr⟩ := hrel
    have hlen : (R.take i ++ X ++ R.drop (i + k)).length = N := by have := HN.out; have := hX.out; simp; omega
    have hkq : i + k < (R.take i ++ X ++ R.drop (i + k)).length := by omega
    obtain ⟨cc0, f0⟩ := hown'.cell (i + k) hkq
    have hiR : i + k < R.length := by rw [HN.out]; omega
    have eq1 : (R.take i ++ X ++ R.drop (i + k))[i + k] = R[i + k] := by
      have h1 := hX.out
      rw [List.getElem_append_right (by simp; omega)]
      simp only [List.getElem_drop]
      congr 1
      simp; omega
    rw [eq1] at cc0
    have r0 := small_get sR (i + k) hiR
    obtain ⟨r, hr⟩ : ∃ r, r = R[i + k] := ⟨_, rfl⟩
    rw [← hr] at cc0 r0
    have hLk : Hid (L[k]'(by rw [HL.out]; simp; omega) = r) := by unfold Hid; rw [hr]; simp [HL.out]
    unfold H at r0
    have Hlen := hid hlen; have Heq := hid eq1
    clear hr hlen eq1
    by_cases hkm : k < m
    · have hkB : k < Bl.length := by rw [HBl.out]; omega
      have e1 := (hgr.block g' (World.block_lt_of_cell? w _ (Hw.out k hkB)) (by simp; omega))
      have e2 : wr.cell? ⟨g', off' + k, none⟩ = some (.int .u32 (Bl[k] : Nat)) := (World.cell?_of_block (w := w) e1).trans (Hw.out k hkB)
      have x0 := small_get sB k hkB
      obtain ⟨x, hx⟩ : ∃ x, x = Bl[k] := ⟨_, rfl⟩
      rw [← hx] at e2 x0
      unfold H at x0
      have Hx := hid hx
      clear hx e1
      obtain ⟨P, hP⟩ : ∃ P, P = r + x + c' := ⟨_, rfl⟩
      have q3 : (r : Int) + (x : Int) + (c' : Int) = (P : Int) := by rw [hP]; simp
      have hPl : P ≤ 8589934591 := by omega
      have HP := hid hP; have Q3 := hid q3
      clear hP q3
      go_wp2
      have r1 : ((r : Int) + (x : Int) + (c' : Int)) / 4294967296 = ((P / 4294967296 : Nat) : Int) := by rw [Q3.out]; omega
      have r2 : ((r : Int) + (x : Int) + (c' : Int)) % 4294967296 = ((P % 4294967296 : Nat) : Int) := by rw [Q3.out]; omega
      rw [r1, r2]
      have hset := hown'.set (i + k) (P % 4294967296)
      rw [row_set R X i k _ hX.out hiR] at hset
      have hv' : val H (X ++ [P % 4294967296]) + P / 4294967296 * H ^ (k + 1) = val H (L.take (k + 1)) + val H (Bl.take (k + 1)) := by
        rw [val_snoc, hX.out, val_take_succ H Bl k hkB, ← Hx.out, val_take_succ H L k (by rw [HL.out]; simp; omega), hLk.out, Nat.pow_succ]
        exact more_step HP.out hv.out
      clear r1 r2
      go_roundw
      case rel => exact ⟨k + 1, P / 4294967296, X ++ [P % 4294967296], by omega, by go_num, rfl, by omega, by have := hX.out; unfold Hid; simp; omega, small_snoc sX (Nat.mod_lt _ (by decide)), hset.1, hv', grown_trans hgr hset.2⟩
      case measure => (simp [intOf] <;> omega)
    · obtain rfl : k = m := by omega
      obtain ⟨P, hP⟩ : ∃ P, P = r + 0 + c' := ⟨_, rfl⟩
      have hset := hown'.set (i + k) (P % 4294967296)
      rw [row_set R X i k _ hX.out hiR] at hset
      have hv' : val H (X ++ [P % 4294967296]) + P / 4294967296 * H ^ (k + 1) = val H L + val H Bl := by
        have e1 := val_take_succ H L k (by rw [HL.out]; simp; omega)
        rw [show L.take (k + 1) = L by rw [List.take_of_length_le]; rw [HL.out]; simp; omega, hLk.out] at e1
        have e2 := hv.out
        rw [show Bl.take k = Bl by rw [List.take_of_length_le]; rw [HBl.out]; exact Nat.le_refl _] at e2
        rw [val_snoc, hX.out, e1, Nat.pow_succ]
        have := more_step (x := 0) hP e2
        rw [Nat.mul_zero, Nat.add_zero] at this
        exact this
      have hPi : (P : Int) = (r : Int) + (c' : Int) := by rw [hP]; simp
      have HV := hid hv'; have Hset := hid hset; have HPi := hid hPi
      have hPl : P ≤ 4294967296 := by omega
      clear hv' hset hPi hP
      go_wp2
      go_end0
      have hmod : ((r : Int) + (c' : Int)) % 4294967296 = ((P % 4294967296 : Nat) : Int) := by rw [← HPi.out]; omega
      rw [hmod]
      exact ⟨X ++ [P % 4294967296], P / 4294967296, rfl, by simp [hX.out], small_snoc sX (Nat.mod_lt _ (by decide)), HV.out, Hset.out.1, grown_trans hgr Hset.out.2⟩
end Go.Proofs.YtnfohbpgnbfmeaaGreatDoor
/- whole.takeOff: a divisor is taken off a row's window as often as it goes. -/
namespace Go.Proofs.YtnfohbpgnbfmeaaGreatDoor
open Go.RowKit Big

theorem Own.drewN {w : World} {base : Nat} {e : TypeId} {k : IntKind} {v : Value} {l : List Nat} (h : Own w base e k v l) (n : Nat) : Own (w.drewN n) base e k v l := h
theorem off_right {vL vB k vX : Nat} (hk : vL / vB = k) (hv : vX + k * vB = vL) : vX = vL % vB := by
  have := Nat.div_add_mod vL vB
  rw [hk, Nat.mul_comm] at this; omega
theorem off_less {vL vB k : Nat} (hB : 0 < vB) (hk : vL / vB + 1 = k) : vL < k * vB := by
  rw [← hk]
  have := Nat.lt_mul_div_succ vL hB
  rwa [Nat.mul_comm] at this
theorem off_ge {vL vB k : Nat} (hk : vL / vB = k) : ¬ vL < k * vB := by
  have := Nat.div_mul_le_self vL vB
  rw [hk] at this; omega
theorem off_back {vL vB k vX vY c K : Nat} (hB : 0 < vB) (hk : vL / vB + 1 = k) (hX : vX + k * vB = vL + K) (hY : vY + c * K = vX + vB) (hYK : vY < K) (hBK : vB < K) : vY = vL % vB := by
  have h1 := Nat.div_add_mod vL vB
  have h2 := Nat.mod_lt vL hB
  have h3 : k * vB = vB * (vL / vB) + vB := by rw [← hk, Nat.add_mul, Nat.mul_comm]; omega
  have h4 : vY + c * K = vL % vB + K := by omega
  have : c = 1 := by
    rcases (by omega : c = 0 ∨ c = 1 ∨ 2 ≤ c) with e | e | e
    · subst e; omega
    · exact e
    · have : 2 * K ≤ c * K := Nat.mul_le_mul_right _ e
      omega
  subst this; omega

theorem row_mid (R X : List Nat) (i n : Nat) (hX : X.length = n) (hi : i + n ≤ R.length) : ((R.take i ++ X ++ R.drop (i + n)).drop i).take n = X := by
  have e : (R.take i).length = i := by simp; omega
  rw [List.append_assoc, List.drop_append_of_le_length (by omega), List.drop_of_length_le (by omega), List.nil_append, List.take_append_of_le_length (by omega), List.take_of_length_le (by omega)]
theorem row_twice (R X Y : List Nat) (i n : Nat) (hX : X.length = n) (hi : i + n ≤ R.length) : (R.take i ++ X ++ R.drop (i + n)).take i ++ Y ++ (R.take i ++ X ++ R.drop (i + n)).drop (i + n) = R.take i ++ Y ++ R.drop (i + n) := by
  have e : (R.take i).length = i := by simp; omega
  have e1 : (R.take i ++ X ++ R.drop (i + n)).take i = R.take i := by rw [List.append_assoc, List.take_append_of_le_length (by omega), List.take_of_length_le (by omega)]
  have e2 : (R.take i ++ X ++ R.drop (i + n)).drop (i + n) = R.drop (i + n) := by
    rw [List.drop_append, List.drop_of_length_le (by simp; omega)]
    simp [hX, show min i R.length = i by omega]
  rw [e1, e2]
theorem row_again {w : World} {B0 g N cap i n : Nat} {R X Y : List Nat} (h : Own w B0 157 .u32 (.slice (some ⟨g, 0, none⟩) N cap) ((R.take i ++ X ++ R.drop (i + n + 1)).take i ++ Y ++ (R.take i ++ X ++ R.drop (i + n + 1)).drop (i + n + 1)))
    (hX : X.length = n + 1) (_ : Y.length = n + 1) (hi : i + n + 1 ≤ N) (hN : R.length = N) : Own w B0 157 .u32 (.slice (some ⟨g, 0, none⟩) N cap) (R.take i ++ Y ++ R.drop (i + n + 1)) := by
  have := row_twice R X Y i (n + 1) hX (by omega)
  rw [← Nat.add_assoc] at this
  rwa [this] at h
def ROff (B0 g N cap i m : Nat) (R L Bl : List Nat) (w : World) (e : Ending) (w' : World) : Prop :=
  ∃ X, X.length = m + 1 ∧ Small H X ∧ e = .returned (.int .u32 (val H L / val H Bl : Nat)) ∧ val H X = val H L % val H Bl ∧ Own w' B0 157 .u32 (.slice (some ⟨g, 0, none⟩) N cap) (R.take i ++ X ++ R.drop (i + m + 1)) ∧ w.grownBy w' (some g)

theorem drewN_grown (w : World) (n : Nat) (row : Option Nat) : w.grownBy (w.drewN n) row := ⟨rfl, rfl, rfl, Nat.le_refl _, fun _ _ _ => rfl⟩

set_option maxRecDepth 100000 in
set_option maxHeartbeats 1600000 in
theorem takeOff_any (B0 g N cap i m cw g' off' cb : Nat) (R L Bl : List Nat) (w : World) (hown : Own w B0 157 .u32 (.slice (some ⟨g, 0, none⟩) N cap) R) (hN : R.length = N) (hi : i + (m + 2) + 1 ≤ N) (hL : L = (R.drop i).take (m + 2 + 1))
    (hBl : Bl.length = m + 2) (hw : Win w g' off' Bl) (hgg : g' ≠ g) (sR : Small H R) (sB : Small H Bl) (ht : 2147483648 ≤ Bl[m + 1]'(by omega)) (hlt : val H L < val H Bl * H) (hNm : N ≤ 9223372036854775806) (hcb : m + 2 ≤ cb) (hcb' : cb ≤ 9223372036854775807) :
    Calls Tryz.prog 140 #[.slice (some ⟨g, i, none⟩) (m + 2 + 1) cw, .slice (some ⟨g', off', none⟩) (m + 2) cb] w (ROff B0 g N cap i (m + 2) R L Bl w) := by
  have hLl : L.length = m + 3 := by rw [hL]; simp; omega
  have sL : Small H L := by rw [hL]; exact small_take (small_drop sR _) _
  have hwin : Win w g i L := fun j hj => by
    have h1 := (hown.cell (i + j) (by omega)).1
    rw [h1]
    simp [hL]
  have hB0 : 0 < val H Bl := by
    have := val_top2 H Bl m hBl
    have h2 : 0 < H ^ m * (Bl[m]'(by omega) + H * Bl[m + 1]'(by omega)) := Nat.mul_pos (Nat.pow_pos (by decide)) (by unfold H; omega)
    omega
  have hg := guess_any g i cw g' off' cb m L Bl w hLl hBl hwin hw sL sB ht hlt hcb hcb'
  have hl : ∀ n o, o ≤ H → Calls Tryz.prog 150 #[.slice (some ⟨g, i, none⟩) (m + 2 + 1) cw, .slice (some ⟨g', off', none⟩) (m + 2) cb, .int .u64 (o : Nat)] (w.drewN n) (RLess B0 g N cap i (m + 2) o R L Bl (w.drewN n)) := fun n o ho =>
    lessBy_any B0 g N cap i (m + 2) cw g' off' cb o R L Bl (w.drewN n) (hown.drewN n) hN hi hL hBl hw hgg sR sB ho hNm
  have hqH : val H L / val H Bl < 4294967296 := by rw [Nat.div_lt_iff_lt_mul hB0, Nat.mul_comm]; exact hlt
  have hlB := val_lt (B := H) (by decide) sB
  rw [hBl] at hlB
  have hm : ∀ (X : List Nat) w', Own w' B0 157 .u32 (.slice (some ⟨g, 0, none⟩) N cap) (R.take i ++ X ++ R.drop (i + (m + 2) + 1)) → X.length = m + 2 + 1 → Small H X → w.grownBy w' (some g) →
      Calls Tryz.prog 151 #[.slice (some ⟨g, i, none⟩) (m + 2 + 1) cw, .slice (some ⟨g', off', none⟩) (m + 2) cb] w' (RMore B0 g N cap i (m + 2) (R.take i ++ X ++ R.drop (i + (m + 2) + 1)) X Bl w') := fun X w' ho hX sX hgr =>
    moreBy_any B0 g N cap i (m + 2) cw g' off' cb _ X Bl w' ho (by simp; omega) hi (by have := row_mid R X i (m + 2 + 1) hX (by omega); rw [← Nat.add_assoc] at this; exact this.symm) hBl
      (fun j hj => (World.cell?_of_block (w := w) (hgr.block g' (World.block_lt_of_cell? w _ (hw j hj)) (by simp; omega))).trans (hw j hj)) hgg (small_append (small_append (small_take sR _) sX) (small_drop sR _)) sB hNm
  have Hg := hid hg; have Hl := hid hl; have Hm := hid hm; have HL := hid hL; have HN := hid hN; have HBl := hid hBl; have Hw := hid hw; have HLl := hid hLl
  have HlB := hid hlB
  clear hg hl hm hL hN hBl hw hLl hwin hlB hcb hcb' hlt ht
  go_enter Tryz.func140, Tryz.ntmps140
  go_wp2_with fail
  refine Hg.out.mono ?_
  rintro e w1 ⟨k, n, rfl, rfl, hk, hor⟩
  go_wp2_with fail
  refine (Hl.out n k hk).mono ?_
  rintro e w2 ⟨X, hX, sX, rfl, hv, hown2, hgr2⟩
  have HX := hid hX
  rcases hor with hor | hor
  · rw [decide_eq_false (off_ge hor)]
    rw [if_neg (off_ge hor), Nat.add_zero] at hv
    have hres := hid (off_right hor hv)
    have hq : k < 4294967296 := by omega
    have Hor := hid hor
    clear hor hv hX
    go_wp2_with fail
    go_ret
    exact ⟨X, HX.out, sX, by rw [Hor.out]; rfl, hres.out, hown2, grown_trans (drewN_grown w n _) hgr2⟩
  · rw [decide_eq_true (off_less hB0 hor)]
    rw [if_pos (off_less hB0 hor)] at hv
    have hgr : w.grownBy w2 (some g) := grown_trans (drewN_grown w n _) hgr2
    have hk1 : 1 ≤ k := by rw [← hor]; exact Nat.succ_pos _
    have hk2 : k ≤ 4294967296 := hk
    have hk3 : ((k : Int) - 1) = ((k - 1 : Nat) : Int) := by omega
    have hk4 : k - 1 = val H L / val H Bl := by rw [← hor]; rfl
    have Hk3 := hid hk3; have Hk4 := hid hk4
    clear hk3 hk4
    have Hor := hid hor; have Hv := hid hv
    clear hor hv hX
    go_wp2_with fail
    refine (Hm.out X w2 hown2 HX.out sX hgr).mono ?_
    rintro e w3 ⟨Y, c, rfl, hY, sY, hvY, hown3, hgr3⟩
    have hYl := val_lt (B := H) (by decide) sY
    rw [hY] at hYl
    have hres := hid (off_back hB0 Hor.out Hv.out hvY hYl (Nat.lt_of_lt_of_le HlB.out (Nat.pow_le_pow_right (by decide) (by omega))))
    have HY := hid hY
    have hown3' := row_again hown3 HX.out HY.out hi HN.out
    clear hY hvY hYl hown3 hown2
    go_wp2_with fail
    go_ret
    rw [Hk3.out, Hk4.out]
    exact ⟨Y, HY.out, sY, rfl, hres.out, hown3', grown_trans hgr hgr3⟩
end Go.Proofs.YtnfohbpgnbfmeaaGreatDoor
/- whole.shiftUp: bits moved up. -/
namespace Go.Proofs.YtnfohbpgnbfmeaaGreatDoor
open Go.RowKit Big

theorem pow_split (s : Nat) (h : s ≤ 31) : 4294967296 = 2 ^ (32 - s) * 2 ^ s := by rw [← Nat.pow_add, show 32 - s + s = 32 by omega]
theorem shl_mod (x s : Nat) (h : s ≤ 31) : x * 2 ^ s % 4294967296 = 2 ^ s * (x % 2 ^ (32 - s)) := by rw [pow_split s h, Nat.mul_mod_mul_right, Nat.mul_comm]
theorem shl_div (x s : Nat) (h : s ≤ 31) : x * 2 ^ s / 4294967296 = x / 2 ^ (32 - s) := by rw [pow_split s h, Nat.mul_div_mul_right _ _ (Nat.two_pow_pos s)]
theorem shl_or (x s low : Nat) (h : s ≤ 31) (hl : low < 2 ^ s) : bits BinOp.or IntKind.u32 ((x : Int) * 2 ^ s % 4294967296) (low : Int) = ((x * 2 ^ s % 4294967296 + low : Nat) : Int) := by
  have hp : 2 ^ s ≤ 2 ^ 31 := Nat.pow_le_pow_right (by decide) h
  have e : (x : Int) * 2 ^ s % 4294967296 = ((x * 2 ^ s % 4294967296 : Nat) : Int) := by simp
  rw [e, u32_or_nat _ _ (by omega) (by omega)]
  rw [shl_mod x s h, Nat.two_pow_add_eq_or_of_lt hl]
theorem up_digit (x s low : Nat) (h : s ≤ 31) (hx : x < 4294967296) (hl : low < 2 ^ s) : x * 2 ^ s % 4294967296 + low < 4294967296 ∧ x / 2 ^ (32 - s) < 2 ^ s ∧ x / 2 ^ (32 - s) < 4294967296 := by
  have e := pow_split s h
  have hp : 0 < 2 ^ (32 - s) := Nat.two_pow_pos _
  refine ⟨?_, ?_, Nat.lt_of_le_of_lt (Nat.div_le_self _ _) hx⟩
  · rw [shl_mod x s h]
    have h1 : x % 2 ^ (32 - s) + 1 ≤ 2 ^ (32 - s) := Nat.mod_lt _ hp
    have h2 : 2 ^ s * (x % 2 ^ (32 - s) + 1) ≤ 2 ^ s * 2 ^ (32 - s) := Nat.mul_le_mul_left _ h1
    rw [Nat.mul_add, Nat.mul_comm (2 ^ s) (2 ^ (32 - s)), ← e] at h2
    omega
  · rw [Nat.div_lt_iff_lt_mul hp, Nat.mul_comm, ← e]; exact hx
theorem up_step {vX vL x s low K d : Nat} (h : s ≤ 31) (hd : d = x * 2 ^ s % 4294967296 + low) (hv : vX + K * low = vL * 2 ^ s) : (vX + K * d) + K * H * (x / 2 ^ (32 - s)) = (vL + K * x) * 2 ^ s := by
  have e := Nat.div_add_mod (x * 2 ^ s) 4294967296
  rw [shl_div x s h] at e
  have e2 : K * (4294967296 * (x / 2 ^ (32 - s)) + x * 2 ^ s % 4294967296) = K * (x * 2 ^ s) := by rw [e]
  rw [Nat.add_mul, ← hv, hd, Nat.mul_add, Nat.mul_assoc K x]
  rw [Nat.mul_add] at e2
  have e3 : K * H * (x / 2 ^ (32 - s)) = K * (4294967296 * (x / 2 ^ (32 - s))) := Nat.mul_assoc ..
  omega
def RUp (l : List Nat) (s : Nat) (w : World) (e : Ending) (w' : World) : Prop :=
  ∃ X t, X.length = l.length ∧ Small H (X ++ [t]) ∧ val H (X ++ [t]) = val H l * 2 ^ s ∧ t < 2 ^ s ∧ ROwn 157 .u32 (X ++ [t]) w e w'

set_option maxRecDepth 100000 in
set_option maxHeartbeats 1600000 in
theorem shiftUp_any (v : Value) (l : List Nat) (s : Nat) (w : World) (h : At w .u32 v l) (hs : Small H l) (hs31 : s ≤ 31) (hlen : l.length ≤ 4398046511104) :
    Calls Tryz.prog 139 #[v, .int .i64 (s : Nat)] w (RUp l s w) := by
  obtain ⟨p, cap, rfl, a1, a2, a3, a4⟩ := h
  unfold maxLen at a2
  go_enter Tryz.func139, Tryz.ntmps139
  go_wp2_with (first
    | (at_make; refine wpList_make_at rfl _ _ 139 rfl elemHalves w.heap.size _ _ _ (l.length + 1) rfl rfl (by first | rfl | omega | (simp; done)) (by omega) (by simp [maxLen]; omega) (Nat.le_refl _) ?_; intro vo w1 ho hb1 hs1 hvo; clear hvo))
  go_loopw [5, 6, 15] (fun o lo i wr => ∃ (k low : Nat) (X : List Nat), k ≤ l.length ∧ i = .int .i64 (k : Nat) ∧ lo = .int .u32 (low : Nat) ∧ low < 4294967296 ∧ Hid (low < 2 ^ s) ∧ Own wr w.heap.size 157 .u32 o X ∧ Hid (X.length = k) ∧ Small H X ∧
      Hid (val H X + H ^ k * low = val H (l.take k) * 2 ^ s) ∧ Below w.heap.size w wr) (fun _ _ i _ => l.length - (intOf i).toNat)
  case atStart => exact ⟨0, 0, [], Nat.zero_le _, rfl, rfl, by omega, Nat.two_pow_pos _, ho, rfl, small_nil _, by unfold Hid; simp [val], hb1⟩
  case round =>
    obtain ⟨k, low, X, hk, rfl, rfl, hl32, hlow, hown, hXk, hsX, hv, hbel⟩ := hrel
    by_cases hkl : k < l.length
    · obtain ⟨b, off, rfl, hbb, hcell⟩ := a4 (by omega)
      have e0 : wr.cell? ⟨b, off + k, none⟩ = some (.int .u32 (l[k] : Nat)) := (hbel.cell (p := ⟨b, off + k, none⟩) hbb).trans (hcell k hkl)
      have x0 := small_get hs k hkl
      obtain ⟨x, hx⟩ : ∃ x, x = l[k] := ⟨_, rfl⟩
      rw [← hx] at e0 x0
      have Hx := hid hx; clear hx hcell a4
      unfold H at x0
      obtain ⟨d, hd⟩ : ∃ d, d = x * 2 ^ s % 4294967296 + low := ⟨_, rfl⟩
      obtain ⟨u1, u2, u3⟩ := up_digit x s low hs31 x0 hlow.out
      rw [← hd] at u1
      have hor := shl_or x s low hs31 hlow.out
      rw [← hd] at hor
      have hv' : val H (X ++ [d]) + H ^ (k + 1) * (x / 2 ^ (32 - s)) = val H (l.take (k + 1)) * 2 ^ s := by
        rw [val_snoc, hXk.out, val_take_succ H l k hkl, ← Hx.out, Nat.pow_succ]
        exact up_step hs31 hd hv.out
      have Hd := hid hd; have Hor := hid hor; have Hv' := hid hv'; have U2 := hid u2; have U3 := hid u3
      clear hd hor hv' u2 u3
      go_wp2_with (at_builtin; refine wpList_append_at rfl _ _ 139 rfl elemHalves w.heap.size _ X rfl (hown.alloc _) _ [d] rfl (At.oneI _ _ _ _ _ (by exact Hor.out)) (by rw [hXk.out]; simp [maxLen]; omega) (by rw [hXk.out]; simp; omega) (by have := hbel.size; simp; omega) ?_; intro v2 w2 ho2 hb2 hs2)
      go_roundw
      case rel => exact ⟨k + 1, x / 2 ^ (32 - s), X ++ [d], by omega, by go_num, by simp, U3.out, U2.out, ho2, by have := hXk.out; unfold Hid; simp; omega, small_snoc hsX u1, Hv'.out, (hbel.trans ((below1 _ _).mono hbel.size)).trans hb2⟩
      case measure => (simp [intOf] <;> omega)
    · obtain rfl : k = l.length := by omega
      clear a4
      go_wp2_with (at_builtin; refine wpList_append_at rfl _ _ 139 rfl elemHalves w.heap.size _ X rfl (hown.alloc _) _ [low] rfl (At.oneI _ _ _ _ _ (by rfl)) (by rw [hXk.out]; simp [maxLen]; omega) (by rw [hXk.out]; simp; omega) (by have := hbel.size; simp; omega) ?_; intro v2 w2 ho2 hb2 hs2)
      go_ret
      refine ⟨X, low, hXk.out, small_snoc hsX hl32, ?_, hlow.out, _, rfl, ho2, (hbel.trans ((below1 _ _).mono hbel.size)).trans hb2⟩
      have := hv.out
      rw [List.take_length] at this
      rw [val_snoc, hXk.out, this]
end Go.Proofs.YtnfohbpgnbfmeaaGreatDoor
/- whole.shiftDown: bits moved down. -/
namespace Go.Proofs.YtnfohbpgnbfmeaaGreatDoor
open Go.RowKit Big

/-- the digits of a value whose last s bits are to go: of list l, moved down, the first k -/
theorem down_digit (x y s : Nat) (h : s ≤ 31) (hx : x < 4294967296) : x / 2 ^ s + y * 2 ^ (32 - s) % 4294967296 < 4294967296 ∧
    bits BinOp.or IntKind.u32 ((x : Int) / 2 ^ s) ((y : Int) * 2 ^ (32 - s) % 4294967296) = ((x / 2 ^ s + y * 2 ^ (32 - s) % 4294967296 : Nat) : Int) := by
  by_cases h0 : s = 0
  · subst h0
    have e : y * 2 ^ (32 - 0) % 4294967296 = 0 := by show y * 4294967296 % 4294967296 = 0; omega
    have e' : (y : Int) * 2 ^ (32 - 0) % 4294967296 = ((y * 2 ^ (32 - 0) % 4294967296 : Nat) : Int) := by simp
    rw [e', e]
    have e2 : (x : Int) / 2 ^ 0 = ((x : Nat) : Int) := by simp
    rw [e2, u32_or_nat _ _ (by omega) (by omega)]
    simp
    omega
  · have hp := pow_split s h
    have hq : x / 2 ^ s < 2 ^ (32 - s) := by rw [Nat.div_lt_iff_lt_mul (Nat.two_pow_pos s), ← hp]; exact hx
    have e := shl_mod y (32 - s) (by omega)
    rw [show 32 - (32 - s) = s by omega] at e
    have hl : 2 ^ (32 - s) * (y % 2 ^ s) + 2 ^ (32 - s) ≤ 4294967296 := by
      have h1 : y % 2 ^ s + 1 ≤ 2 ^ s := Nat.mod_lt _ (Nat.two_pow_pos s)
      have h2 : 2 ^ (32 - s) * (y % 2 ^ s + 1) ≤ 2 ^ (32 - s) * 2 ^ s := Nat.mul_le_mul_left _ h1
      rw [← hp, Nat.mul_add] at h2
      omega
    refine ⟨by rw [e]; omega, ?_⟩
    have e1 : (x : Int) / 2 ^ s = ((x / 2 ^ s : Nat) : Int) := by simp
    have e2 : (y : Int) * 2 ^ (32 - s) % 4294967296 = ((y * 2 ^ (32 - s) % 4294967296 : Nat) : Int) := by simp
    rw [e1, e2, u32_or_nat _ _ (by omega) (by omega), e, Nat.or_comm, ← Nat.two_pow_add_eq_or_of_lt hq, Nat.add_comm]
theorem down_step {vX vL x y s r0 K d : Nat} (h : s ≤ 31) (hd : d = x / 2 ^ s + y * 2 ^ (32 - s) % 4294967296) (hv : 2 ^ s * vX + r0 = vL + K * (x % 2 ^ s)) :
    2 ^ s * (vX + K * d) + r0 = (vL + K * x) + K * H * (y % 2 ^ s) := by
  have e := Nat.div_add_mod x (2 ^ s)
  have e1 : 2 ^ s * (y * 2 ^ (32 - s) % 4294967296) = H * (y % 2 ^ s) := by
    by_cases h0 : s = 0
    · subst h0
      have a : y * 2 ^ (32 - 0) % 4294967296 = 0 := by show y * 4294967296 % 4294967296 = 0; omega
      rw [a]; simp [Nat.mod_one]
    · have a := shl_mod y (32 - s) (by omega)
      rw [show 32 - (32 - s) = s by omega] at a
      rw [a, ← Nat.mul_assoc, Nat.mul_comm (2 ^ s), ← pow_split s h]; rfl
  have e2 : K * (2 ^ s * (x / 2 ^ s) + x % 2 ^ s) = K * x := by rw [e]
  have e3 : 2 ^ s * (K * d) = K * (2 ^ s * (x / 2 ^ s)) + K * (H * (y % 2 ^ s)) := by
    rw [Nat.mul_left_comm, hd, Nat.mul_add, e1, Nat.mul_add]
  rw [Nat.mul_add] at e2
  rw [Nat.mul_add, e3, Nat.mul_assoc K H]
  omega

set_option maxRecDepth 100000 in
set_option maxHeartbeats 1600000 in
theorem shiftDown_any (v : Value) (l : List Nat) (s : Nat) (w : World) (h : At w .u32 v l) (hs : Small H l) (hs31 : s ≤ 31) (hlen : l.length ≤ 4398046511104) :
    Calls Tryz.prog 141 #[v, .int .i64 (s : Nat)] w (ROwn 157 .u32 (dig H (val H l / 2 ^ s)) w) := by
  obtain ⟨p, cap, rfl, a1, a2, a3, a4⟩ := h
  unfold maxLen at a2
  obtain ⟨r0, hr0⟩ : ∃ r, r = l[0]?.getD 0 % 2 ^ s := ⟨_, rfl⟩
  have Hr0 := hid hr0
  clear hr0
  go_enter Tryz.func141, Tryz.ntmps141
  go_wp2_with (first
    | (at_make; refine wpList_make_at rfl _ _ 139 rfl elemHalves w.heap.size _ _ _ l.length rfl rfl (by first | rfl | omega | (simp; done)) (by omega) (by simp [maxLen]; omega) (Nat.le_refl _) ?_; intro vo w1 ho hb1 hs1 hvo; clear hvo))
  go_loopw [5, 14] (fun o i wr => ∃ (k : Nat) (X : List Nat), k ≤ l.length ∧ i = .int .i64 (k : Nat) ∧ Own wr w.heap.size 157 .u32 o X ∧ Hid (X.length = k) ∧ Small H X ∧
      Hid (2 ^ s * val H X + r0 = val H (l.take k) + H ^ k * (l[k]?.getD 0 % 2 ^ s)) ∧ Below w.heap.size w wr) (fun _ i _ => l.length - (intOf i).toNat)
  case atStart => exact ⟨0, [], Nat.zero_le _, rfl, ho, rfl, small_nil _, by unfold Hid; rw [Hr0.out]; simp [val], hb1⟩
  case round =>
    obtain ⟨k, X, hk, rfl, hown, hXk, hsX, hv, hbel⟩ := hrel
    by_cases hkl : k < l.length
    · obtain ⟨b, off, rfl, hbb, hcell⟩ := a4 (by omega)
      have e0 : wr.cell? ⟨b, off + k, none⟩ = some (.int .u32 (l[k] : Nat)) := (hbel.cell (p := ⟨b, off + k, none⟩) hbb).trans (hcell k hkl)
      have x0 := small_get hs k hkl
      obtain ⟨x, hx⟩ : ∃ x, x = l[k] := ⟨_, rfl⟩
      rw [← hx] at e0 x0
      have Hx := hid hx
      have hv1 := hv.out
      rw [List.getElem?_eq_getElem hkl, Option.getD_some, ← hx] at hv1
      clear hx
      unfold H at x0
      by_cases hk1 : k + 1 < l.length
      · have e1 : wr.cell? ⟨b, off + (k + 1), none⟩ = some (.int .u32 (l[k + 1] : Nat)) := (hbel.cell (p := ⟨b, off + (k + 1), none⟩) hbb).trans (hcell (k + 1) hk1)
        have y0 := small_get hs (k + 1) hk1
        obtain ⟨y, hy⟩ : ∃ y, y = l[k + 1] := ⟨_, rfl⟩
        rw [← hy] at e1 y0
        unfold H at y0
        obtain ⟨d1, d2⟩ := down_digit x y s hs31 x0
        obtain ⟨d, hd⟩ : ∃ d, d = x / 2 ^ s + y * 2 ^ (32 - s) % 4294967296 := ⟨_, rfl⟩
        rw [← hd] at d1 d2
        have hv' : 2 ^ s * val H (X ++ [d]) + r0 = val H (l.take (k + 1)) + H ^ (k + 1) * (l[k + 1]?.getD 0 % 2 ^ s) := by
          rw [val_snoc, hXk.out, val_take_succ H l k hkl, ← Hx.out, Nat.pow_succ, List.getElem?_eq_getElem hk1, Option.getD_some, ← hy]
          exact down_step hs31 hd hv1
        have D2 := hid d2; have Hv' := hid hv'
        clear d2 hv' hd hy hv1 hcell a4
        go_wp2_with (at_builtin; refine wpList_append_at rfl _ _ 139 rfl elemHalves w.heap.size _ X rfl (hown.alloc _) _ [d] rfl (At.oneI _ _ _ _ _ (by exact D2.out)) (by rw [hXk.out]; simp [maxLen]; omega) (by rw [hXk.out]; simp; omega) (by have := hbel.size; simp; omega) ?_; intro v2 w2 ho2 hb2 hs2)
        go_roundw
        case rel => exact ⟨k + 1, X ++ [d], by omega, by go_num, ho2, by have := hXk.out; unfold Hid; simp; omega, small_snoc hsX d1, Hv'.out, (hbel.trans ((below1 _ _).mono hbel.size)).trans hb2⟩
        case measure => (simp [intOf] <;> omega)
      · obtain ⟨d1, d2⟩ := down_digit x 0 s hs31 x0
        have d2' : bits BinOp.or IntKind.u32 ((x : Int) / 2 ^ s) 0 = ((x / 2 ^ s + 0 * 2 ^ (32 - s) % 4294967296 : Nat) : Int) := by
          have e : ((0 : Nat) : Int) * 2 ^ (32 - s) % 4294967296 = 0 := by simp
          rw [e] at d2; exact d2
        obtain ⟨d, hd⟩ : ∃ d, d = x / 2 ^ s + 0 * 2 ^ (32 - s) % 4294967296 := ⟨_, rfl⟩
        rw [← hd] at d1 d2'
        have hv' : 2 ^ s * val H (X ++ [d]) + r0 = val H (l.take (k + 1)) + H ^ (k + 1) * (l[k + 1]?.getD 0 % 2 ^ s) := by
          rw [val_snoc, hXk.out, val_take_succ H l k hkl, ← Hx.out, Nat.pow_succ, List.getElem?_eq_none (by omega)]
          exact down_step hs31 hd hv1
        have D2 := hid d2'; have Hv' := hid hv'
        clear d2 d2' hv' hd hv1 hcell a4
        go_wp2_with (at_builtin; refine wpList_append_at rfl _ _ 139 rfl elemHalves w.heap.size _ X rfl (hown.alloc _) _ [d] rfl (At.oneI _ _ _ _ _ (by exact D2.out)) (by rw [hXk.out]; simp [maxLen]; omega) (by rw [hXk.out]; simp; omega) (by have := hbel.size; simp; omega) ?_; intro v2 w2 ho2 hb2 hs2)
        go_roundw
        case rel => exact ⟨k + 1, X ++ [d], by omega, by go_num, ho2, by have := hXk.out; unfold Hid; simp; omega, small_snoc hsX d1, Hv'.out, (hbel.trans ((below1 _ _).mono hbel.size)).trans hb2⟩
        case measure => (simp [intOf] <;> omega)
    · obtain rfl : k = l.length := by omega
      have hv' : Hid (strip X = dig H (val H l / 2 ^ s)) := by
        have := hv.out
        rw [List.take_length, List.getElem?_eq_none (Nat.le_refl _)] at this
        have hr : r0 < 2 ^ s := by rw [Hr0.out]; exact Nat.mod_lt _ (Nat.two_pow_pos s)
        simp only [Option.getD_none, Nat.zero_mod, Nat.mul_zero, Nat.add_zero] at this
        unfold Hid
        rw [← this, Nat.mul_add_div (Nat.two_pow_pos s), Nat.div_eq_of_lt hr, Nat.add_zero, strip_dig H2 hsX]
      have hst := strip_length X
      have ht := hid (htrim_val _ X wr hown.at)
      clear a4
      go_wp2_with (go_at_call 114; refine ht.out.mono ?_; rintro e w' ⟨rfl, rfl⟩)
      go_ret
      obtain ⟨po, co, rfl, -⟩ := id hown.at
      exact ⟨_, rfl, by rw [← hv'.out]; have := hown.take (strip X).length hst; rwa [← strip_is_take] at this, hbel⟩
end Go.Proofs.YtnfohbpgnbfmeaaGreatDoor
/- whole.divideLong: plain numbers. -/
namespace Go.Proofs.YtnfohbpgnbfmeaaGreatDoor
open Go.RowKit Big

theorem lead_ok (t : Nat) (h0 : 0 < t) (h : t < 4294967296) : ∃ s : Nat, s ≤ 31 ∧ (32 - (Lib.bitLen t : Int)) = (s : Int) ∧ 2147483648 ≤ t * 2 ^ s ∧ (t + 1) * 2 ^ s ≤ 4294967296 := by
  obtain ⟨a, b, c⟩ := Lib.bitLenAux_bounds 64 t (Nat.lt_trans h (by decide)) (by omega)
  have hb : Lib.bitLen t ≤ 32 := Lib.bitLen_le t 32 (by decide) h
  change 1 ≤ Lib.bitLen t at a
  change 2 ^ (Lib.bitLen t - 1) ≤ t at b
  change t < 2 ^ Lib.bitLen t at c
  generalize Lib.bitLen t = L at *
  refine ⟨32 - L, by omega, by omega, ?_, ?_⟩
  · have e : 2 ^ (L - 1) * 2 ^ (32 - L) = 2147483648 := by rw [← Nat.pow_add, show L - 1 + (32 - L) = 31 by omega]
    have := Nat.mul_le_mul_right (2 ^ (32 - L)) b
    omega
  · have e : 2 ^ L * 2 ^ (32 - L) = 4294967296 := by rw [← Nat.pow_add, show L + (32 - L) = 32 by omega]
    have := Nat.mul_le_mul_right (2 ^ (32 - L)) (show t + 1 ≤ 2 ^ L from c)
    omega
/-- the divisor, moved up: as many halves, the highest bit set -/
theorem up_divisor {b s m : Nat} {l : List Nat} (hl : l = dig H b) (hm : l.length = m + 2) (t : Nat) (ht : t = l[m + 1]'(by omega)) (h1 : 2147483648 ≤ t * 2 ^ s) (h2 : (t + 1) * 2 ^ s ≤ 4294967296) :
    (dig H (b * 2 ^ s)).length = m + 2 ∧ ∀ h : m + 1 < (dig H (b * 2 ^ s)).length, 2147483648 ≤ (dig H (b * 2 ^ s))[m + 1]'h := by
  have hv : val H l = b := by rw [hl, val_dig H2]
  have hs : Small H l := by rw [hl]; exact small_dig H2 b
  have e := val_take_succ H l (m + 1) (by omega)
  rw [show m + 1 + 1 = l.length by omega, List.take_length, hv, ← ht] at e
  have lt : val H (l.take (m + 1)) < H ^ (m + 1) := val_take_lt hs (m + 1) (by omega)
  have e1 : H ^ (m + 1) * 2147483648 ≤ b * 2 ^ s := by
    rw [e, Nat.add_mul, Nat.mul_assoc]
    have := Nat.mul_le_mul_left (H ^ (m + 1)) h1
    omega
  have e2 : b * 2 ^ s < H ^ (m + 2) := by
    have a1 : b + 1 ≤ H ^ (m + 1) * (t + 1) := by rw [e, Nat.mul_add]; omega
    have a2 : (b + 1) * 2 ^ s ≤ H ^ (m + 1) * (t + 1) * 2 ^ s := Nat.mul_le_mul_right _ a1
    have a3 : H ^ (m + 1) * (t + 1) * 2 ^ s ≤ H ^ (m + 1) * 4294967296 := by rw [Nat.mul_assoc]; exact Nat.mul_le_mul_left _ h2
    have a4 : H ^ (m + 2) = H ^ (m + 1) * 4294967296 := Nat.pow_succ ..
    have a5 : 0 < 2 ^ s := Nat.two_pow_pos s
    rw [Nat.add_mul] at a2
    omega
  have hlen : (dig H (b * 2 ^ s)).length = m + 2 := by
    have h3 : sz H (b * 2 ^ s) ≤ m + 2 := sz_le_of_lt H2 e2
    have h4 : ¬ sz H (b * 2 ^ s) ≤ m + 1 := fun hle => by
      have a1 := lt_pow_sz H2 (b * 2 ^ s)
      have a2 : H ^ sz H (b * 2 ^ s) ≤ H ^ (m + 1) := Nat.pow_le_pow_right (by decide) hle
      omega
    show sz H (b * 2 ^ s) = m + 2
    omega
  refine ⟨hlen, fun hh => ?_⟩
  have f := val_take_succ H (dig H (b * 2 ^ s)) (m + 1) (by omega)
  rw [show m + 1 + 1 = (dig H (b * 2 ^ s)).length by omega, List.take_length, val_dig H2] at f
  have lt2 : val H ((dig H (b * 2 ^ s)).take (m + 1)) < H ^ (m + 1) := val_take_lt (small_dig H2 _) (m + 1) (by omega)
  generalize (dig H (b * 2 ^ s))[m + 1]'(by omega) = u at *
  have g : H ^ (m + 1) * 2147483648 < H ^ (m + 1) * (u + 1) := by rw [Nat.mul_add]; omega
  have := Nat.lt_of_mul_lt_mul_left g
  omega
/-- the dividend, moved up: its highest halves are less than the divisor -/
theorem up_rest {X : List Nat} {t b s m k : Nat} (hs : Small H (X ++ [t])) (ht : t < 2 ^ s) (hX : X.length = k + (m + 1)) (hb : H ^ (m + 1) ≤ b) : val H ((X ++ [t]).drop k) < b * 2 ^ s := by
  have e : (X ++ [t]).drop k = X.drop k ++ [t] := by rw [List.drop_append_of_le_length (by omega)]
  have hl : (X.drop k).length = m + 1 := by simp; omega
  rw [e, val_snoc, hl]
  have h1 := val_lt (B := H) (by decide) (small_drop (small_left hs) k)
  rw [hl] at h1
  have h2 : H ^ (m + 1) * (t + 1) ≤ H ^ (m + 1) * 2 ^ s := Nat.mul_le_mul_left _ ht
  have h3 : H ^ (m + 1) * 2 ^ s ≤ b * 2 ^ s := Nat.mul_le_mul_right _ hb
  rw [Nat.mul_add] at h2
  omega
/-- what lies above a window is 0 -/
theorem above_zero {R : List Nat} {D k M : Nat} (hD : D < H ^ M) (h : val H (R.drop (k + 1)) < D) : val H (R.drop (k + M + 1)) = 0 := by
  by_cases hz : val H (R.drop (k + M + 1)) = 0
  · exact hz
  · exfalso
    by_cases hk : M ≤ (R.drop (k + 1)).length
    · have e := val_take_drop H (R.drop (k + 1)) M hk
      rw [List.drop_drop, show k + 1 + M = k + M + 1 by omega] at e
      have : H ^ M * 1 ≤ H ^ M * val H (R.drop (k + M + 1)) := Nat.mul_le_mul_left _ (by omega)
      omega
    · apply hz
      rw [List.drop_of_length_le (by simp at hk; omega)]; rfl
theorem long_lt {R : List Nat} {D k M : Nat} (sR : Small H R) (hM : D < H ^ M) (hk : k + M + 1 ≤ R.length) (h : val H (R.drop (k + 1)) < D) : val H ((R.drop k).take (M + 1)) < D * H := by
  have z := above_zero hM h
  have w1 : val H (R.drop k) = val H ((R.drop k).take (M + 1)) := by
    have e := val_take_drop H (R.drop k) (M + 1) (by simp; omega)
    rw [List.drop_drop, ← Nat.add_assoc, z, Nat.mul_zero, Nat.add_zero] at e
    exact e
  have w2 : val H (R.drop k) = R[k]'(by omega) + H * val H (R.drop (k + 1)) := val_drop_succ H R k (by omega)
  have rk := small_get sR k (by omega)
  rw [← w1, w2]
  have : H * (val H (R.drop (k + 1)) + 1) ≤ H * D := Nat.mul_le_mul_left _ h
  rw [Nat.mul_add] at this
  rw [Nat.mul_comm D H]
  omega
/-- one round -/
theorem long_step {R X Z : List Nat} {D k M n : Nat} (sR : Small H R) (hM : D < H ^ M) (hk : k + M + 1 ≤ R.length) (hZ : k < Z.length) (h : val H (R.drop (k + 1)) < D) (hv : n = val H R + D * H ^ (k + 1) * val H (Z.drop (k + 1)))
    (hX : X.length = M + 1) (hXv : val H X = val H ((R.drop k).take (M + 1)) % D) :
    val H ((R.drop k).take (M + 1)) < D * H ∧
    val H ((R.take k ++ X ++ R.drop (k + M + 1)).drop k) < D ∧ n = val H (R.take k ++ X ++ R.drop (k + M + 1)) + D * H ^ k * val H ((Z.set k (val H ((R.drop k).take (M + 1)) / D)).drop k) := by
  have z := above_zero hM h
  have w1 : val H (R.drop k) = val H ((R.drop k).take (M + 1)) := by
    have e := val_take_drop H (R.drop k) (M + 1) (by simp; omega)
    rw [List.drop_drop, ← Nat.add_assoc, z, Nat.mul_zero, Nat.add_zero] at e
    exact e
  have w2 : val H (R.drop k) = R[k]'(by omega) + H * val H (R.drop (k + 1)) := val_drop_succ H R k (by omega)
  have rk := small_get sR k (by omega)
  have hD : 0 < D := by omega
  have lt1 : val H ((R.drop k).take (M + 1)) < D * H := by
    rw [← w1, w2]
    have : H * (val H (R.drop (k + 1)) + 1) ≤ H * D := Nat.mul_le_mul_left _ h
    rw [Nat.mul_add] at this
    rw [Nat.mul_comm D H]
    omega
  refine ⟨lt1, ?_, ?_⟩
  · have e : (R.take k ++ X ++ R.drop (k + M + 1)).drop k = X ++ R.drop (k + M + 1) := by
      rw [List.append_assoc, List.drop_append_of_le_length (by simp; omega), List.drop_of_length_le (by simp; omega), List.nil_append]
    rw [e, val_append, z, Nat.mul_zero, Nat.add_zero, hXv]
    exact Nat.mod_lt _ hD
  · have e1 : val H (R.take k ++ X ++ R.drop (k + M + 1)) = val H (R.take k) + H ^ k * val H X := by
      rw [List.append_assoc, val_append, val_append, z, Nat.mul_zero, Nat.add_zero]
      congr 3
      simp; omega
    have e2 : val H R = val H (R.take k) + H ^ k * val H ((R.drop k).take (M + 1)) := by rw [val_take_drop H R k (by omega), w1]
    have e3 : val H ((Z.set k (val H ((R.drop k).take (M + 1)) / D)).drop k) = val H ((R.drop k).take (M + 1)) / D + H * val H (Z.drop (k + 1)) := by
      rw [val_drop_succ H _ k (by simpa using hZ)]
      congr 1
      · simp
      · congr 2
        rw [List.drop_set_of_lt (by omega)]
    rw [hv, e1, e2, e3, hXv]
    have e4 := Nat.div_add_mod (val H ((R.drop k).take (M + 1))) D
    generalize val H ((R.drop k).take (M + 1)) = y at *
    generalize val H (Z.drop (k + 1)) = z' at *
    generalize y / D = q at *
    generalize y % D = r at *
    rw [← e4, Nat.pow_succ]
    have a1 : H ^ k * (D * q + r) = D * H ^ k * q + H ^ k * r := by rw [Nat.mul_add, Nat.mul_comm D (H ^ k), Nat.mul_assoc]
    have a2 : D * H ^ k * (q + H * z') = D * H ^ k * q + D * (H ^ k * H) * z' := by rw [Nat.mul_add, ← Nat.mul_assoc, ← Nat.mul_assoc D, Nat.mul_assoc (D * H ^ k)]
    omega
/-- the end -/
theorem long_end {a b s r q : Nat} (h : a * 2 ^ s = r + b * 2 ^ s * q) (hr : r < b * 2 ^ s) : q = a / b ∧ r / 2 ^ s = a % b := by
  have p : 0 < 2 ^ s := Nat.two_pow_pos s
  have hb : 0 < b := Nat.pos_of_ne_zero fun e => by subst e; simp at hr
  have e1 : (a * 2 ^ s) / (b * 2 ^ s) = q := by
    rw [h, Nat.add_comm, Nat.mul_add_div (Nat.mul_pos hb p), Nat.div_eq_of_lt hr, Nat.add_zero]
  have e2 : (a * 2 ^ s) % (b * 2 ^ s) = r := by
    rw [h, Nat.add_comm, Nat.mul_add_mod, Nat.mod_eq_of_lt hr]
  rw [Nat.mul_div_mul_right _ _ p] at e1
  rw [Nat.mul_mod_mul_right] at e2
  exact ⟨e1.symm, by rw [← e2, Nat.mul_div_cancel _ p]⟩
end Go.Proofs.YtnfohbpgnbfmeaaGreatDoor
/- whole.divideLong: the walk. -/
namespace Go.Proofs.YtnfohbpgnbfmeaaGreatDoor
open Go.RowKit Big

theorem Own.other {w w' : World} {base : Nat} {e : TypeId} {k : IntKind} {v : Value} {l : List Nat} {row : Option Nat} (h : Own w base e k v l) (hg : w.grownBy w' row) (hne : ∀ g, v.ownBlock = some g → some g ≠ row) : Own w' base e k v l := by
  refine ⟨h.1, ?_⟩
  rcases h.2 with hn | ⟨g, cap, cur, rfl, h1, hh, r⟩
  · exact Or.inl hn
  · exact Or.inr ⟨g, cap, cur, rfl, h1, by rw [hg.block g (Array.getElem?_eq_some_iff.1 hh).1 (hne g rfl)]; exact hh, r⟩
def RQuo (q r : Nat) (w : World) (e : Ending) (w' : World) : Prop := ∃ v v', e = .returned (.tuple #[v, v']) ∧ At w' .u32 v (dig H q) ∧ At w' .u32 v' (dig H r) ∧ Below w.heap.size w w'

set_option maxRecDepth 100000 in
set_option maxHeartbeats 3200000 in
theorem divideLong_any (v0 v1 : Value) (a b : Nat) (w : World) (h0 : At w .u32 v0 (dig H a)) (h1 : At w .u32 v1 (dig H b)) (m : Nat) (hm : (dig H b).length = m + 2) (hab : (dig H b).length ≤ (dig H a).length) (hlen : (dig H a).length ≤ 2199023255552) :
    Calls Tryz.prog 116 #[v0, v1] w (RQuo (a / b) (a % b) w) := by
  have sa := small_dig H2 a
  have sb := small_dig H2 b
  have va := val_dig H2 a
  have hb1 : H ^ (m + 1) ≤ b := by
    have h2 : sz H b = m + 2 := hm
    have hp : 0 < b := Nat.pos_of_ne_zero fun e => by rw [e] at h2; simp [sz_zero] at h2
    have := pow_sz_le H2 hp
    rwa [h2] at this
  obtain ⟨p1, c1, rfl, b1, b2, b3, b4⟩ := id h1
  obtain ⟨bb, off, rfl, hbb, hcell⟩ := b4 (by omega)
  have e0 : w.cell? ⟨bb, off + (m + 1), none⟩ = some (.int .u32 ((dig H b)[m + 1]'(by omega) : Nat)) := hcell (m + 1) (by omega)
  have t0 := small_get sb (m + 1) (by omega)
  have tpos : 0 < (dig H b)[m + 1]'(by omega) := by
    have := last_dig H2 b (by intro e; rw [e] at hm; simp at hm)
    rw [List.getLast_eq_getElem] at this
    have hi : (dig H b).length - 1 = m + 1 := by omega
    simp only [hi] at this
    omega
  obtain ⟨t, ht⟩ : ∃ t, t = (dig H b)[m + 1]'(by omega) := ⟨_, rfl⟩
  rw [← ht] at e0 t0 tpos
  obtain ⟨s, hs31, hlz, hs1, hs2⟩ := lead_ok t tpos t0
  have hdd := up_divisor rfl hm t ht hs1 hs2
  have hup0 : ∀ W', At W' .u32 v0 (dig H a) → Calls Tryz.prog 139 #[v0, .int .i64 (s : Nat)] W' (RUp (dig H a) s W') := fun W' hW => shiftUp_any v0 _ s W' hW sa hs31 (by omega)
  have hup1 := shiftUp_any _ _ s w h1 sb hs31 (by omega)
  rw [hm] at hup1
  have hlz' := Tryz.bits_LeadingZeros32 (t : Int) w (by omega) (by unfold H at t0; omega)
  rw [Int.toNat_natCast, hlz] at hlz'
  replace hlz' := hlz'.mono (R' := fun e w' => e = .returned (.int .i64 (s : Nat)) ∧ w = w') (fun e w' h => ⟨h.1, h.2.symm⟩)
  have Hup0 := hid hup0; have Hup1 := hid hup1; have Hlz := hid hlz'; have Hva := hid va; have Hdd := hid hdd; have Hb1 := hid hb1
  have A0 := hid h0
  obtain ⟨L, hL⟩ : ∃ L, L = (dig H a).length := ⟨_, rfl⟩
  have HL := hid hL
  have hLm : m + 2 ≤ L := by omega
  have hL2 : L ≤ 2199023255552 := by omega
  have Hm := hid hm
  unfold maxLen at b2
  unfold H at t0
  have hm2 : (dig H b).length = m + 2 := hm
  rw [hm2]
  rw [hm2] at b1
  clear hup0 hup1 hlz' hlz va hdd hb1 hcell b4 b3 hm hm2 hL ht hs1 hs2 h0 h1 hab hlen tpos sa sb
  go_enter Tryz.func116, Tryz.ntmps116
  go_wp2_with fail
  refine Hlz.out.mono ?_
  rintro e w' ⟨rfl, rfl⟩
  go_wp2_with fail
  refine Hup1.out.mono ?_
  rintro e w1 ⟨X1, t1, hX1, sX1, vX1, ht1, v1, rfl, ho1, hb1⟩
  have hst := strip_length (X1 ++ [t1])
  have hsd : strip (X1 ++ [t1]) = dig H (b * 2 ^ s) := by rw [strip_dig H2 sX1, vX1, val_dig H2]
  have htr := htrim_val _ _ w1 ho1.at
  obtain ⟨q1, k1, rfl, -⟩ := id ho1.at
  have ho1' := ho1.take (strip (X1 ++ [t1])).length hst
  rw [← strip_is_take, hsd] at ho1'
  rw [hsd, show (dig H (b * 2 ^ s)).length = m + 2 from Hdd.out.1] at htr
  rw [show (dig H (b * 2 ^ s)).length = m + 2 from Hdd.out.1] at ho1'
  have Htr := hid htr
  clear hst hsd htr ho1 vX1 sX1 hX1 ht1
  simp only [cutTo] at Htr
  generalize (X1 ++ [t1]).length = n1 at *
  go_wp2_with fail
  refine Htr.out.mono ?_
  rintro e wt ⟨rfl, rfl⟩
  go_wp2_with fail
  refine (Hup0.out _ (A0.out.below hb1)).mono ?_
  rintro e w2 ⟨X2, t2, hX2, sX2, vX2, ht2, v2, rfl, ho2, hb2⟩
  have sh7 := ho1'.shape (by rw [Hdd.out.1]; omega)
  obtain ⟨g7, cap7, e7, hB7, hl7, hc7, hc7'⟩ := sh7
  injection e7 with e71 e72 e73
  subst e71
  subst e73
  have sh8 := ho2.shape (by simp)
  obtain ⟨g8, cap8, e8, hB8, hl8, hc8, hc8'⟩ := sh8
  subst e8
  obtain ⟨K, hK⟩ : ∃ K, L = K + (m + 1) := ⟨L - (m + 1), by omega⟩
  have hN : (X2 ++ [t2]).length = K + m + 2 := by rw [List.length_append, hX2, ← HL.out, hK]; simp; omega
  rw [hN] at hc8 ho2 ⊢
  rw [Hdd.out.1] at hc7
  have hXK : X2.length = K + (m + 1) := by rw [hX2, ← HL.out, hK]
  have start := hid (up_rest (b := b) sX2 ht2 hXK Hb1.out)
  rw [Hva.out] at vX2
  have HvX := hid vX2
  have HN := hid hN
  have hK1 : 1 ≤ K := by omega
  have hKl : K ≤ 2199023255552 := by omega
  have hml : m ≤ 2199023255552 := by omega
  have hKm : K + m + 2 ≤ 4398046511104 := by omega
  have bel2 := hid (Below.go hb2 hb1)
  have o7 := hid (ho1'.kept hb2)
  have hg78 : g7 ≠ g8 := by omega
  have hg7w : g7 < w2.heap.size := by have := hb2.size; omega
  have hg7 : w.heap.size ≤ g7 := hB7
  have hg8 : w.heap.size ≤ g8 := Nat.le_trans hb1.size hB8
  have z2 : g8 < w2.heap.size := hl8
  unfold maxLen at hc7' hc8'
  clear e72 ho1' Hlz Hup0 Hup1 Htr A0 hX2 vX2 hN hXK hK hLm hL2 HL hB7 hB8 hb1 hb2 hl7 hl8 e0 t0 ht2
  generalize X2 ++ [t2] = R0 at *
  go_wp2_with (first
    | (at_make; refine wpList_full_at rfl _ _ 139 rfl elemHalves w2.heap.size _ _ _ _ K rfl rfl (by first | rfl | omega | (simp; done)) (by first | rfl | omega | (simp; done)) (by omega) (by simp [maxLen]; omega) (Nat.le_refl _) ?_; intro vo w3 ho3 hb3 hs3 hvo; subst hvo))
  have o8 := ho2.kept hb3
  have o7' := hid (o7.out.kept hb3)
  have bel3 : Below w.heap.size w w3 := Below.go hb3 bel2.out
  have zq : w2.heap.size < w3.heap.size := by
    rcases ho3.2 with ⟨h, _⟩ | ⟨g, cp, cur, h, _, hh, _⟩
    · injection h with h _ _; cases h
    · injection h with h _ _
      injection h with h
      injection h with h
      subst h
      exact (Array.getElem?_eq_some_iff.1 hh).1
  have hvs : a * 2 ^ s = val H R0 + b * 2 ^ s * H ^ K * val H ((List.replicate K 0).drop K) := by rw [HvX.out]; simp [val]
  have Hvs := hid hvs
  have hD := lt_pow_sz H2 (b * 2 ^ s)
  rw [show sz H (b * 2 ^ s) = m + 2 from Hdd.out.1] at hD
  have HD := hid hD
  obtain ⟨D, hDd⟩ : ∃ D, D = b * 2 ^ s := ⟨_, rfl⟩
  have HDd := hid hDd
  have sD := small_dig H2 (b * 2 ^ s)
  rw [← hDd] at Hvs HD Hdd sD start o7'
  have vD : val H (dig H D) = D := val_dig H2 D
  have HvD := hid vD
  clear hvs hD hDd vD hb3 ho2 o7 bel2 HvX
  have hgq : w2.heap.size ≠ g8 := by omega
  have hgq7 : w2.heap.size ≠ g7 := by omega
  go_loopw [10] (fun i wr => ∃ (k : Nat) (R Z : List Nat), k ≤ K ∧ i = .int .i64 ((k : Int) - 1) ∧ Own wr wt.heap.size 157 .u32 (.slice (some ⟨g8, 0, none⟩) (K + m + 2) cap8) R ∧ Hid (R.length = K + m + 2) ∧ Small H R ∧
      Own wr w2.heap.size 157 .u32 (.slice (some ⟨w2.heap.size, 0, none⟩) K K) Z ∧ Hid (Z.length = K) ∧ Small H Z ∧ Own wr w.heap.size 157 .u32 (.slice (some ⟨g7, 0, none⟩) (m + 2) k1) (dig H D) ∧
      Hid (val H (R.drop k) < D) ∧ Hid (a * 2 ^ s = val H R + D * H ^ k * val H (Z.drop k)) ∧ Below w.heap.size w wr) (fun i _ => (intOf i + 1).toNat)
  case atStart => exact ⟨K, R0, List.replicate K 0, Nat.le_refl _, by go_num, o8, HN.out, sX2, ho3, by simp [Hid], small_zeros (by decide) _, o7'.out, start.out, Hvs.out, bel3⟩
  case round =>
    obtain ⟨k, R, Z, hk, rfl, o8', hR, sR, oq, hZ, sZ, o7'', hlt, hv, hbel⟩ := hrel
    by_cases hk0 : 0 < k
    · obtain ⟨k, rfl⟩ : ∃ k', k = k' + 1 := ⟨k - 1, by omega⟩
      have hMl : m + 2 ≤ k1 := hc7
      have hwin : Win wr g7 0 (dig H D) := fun j hj => by
        have := (o7''.cell j hj).1
        rw [Nat.zero_add]; exact this
      have hL := long_lt sR HD.out (by rw [hR.out]; omega) hlt.out
      have hqlt : val H ((R.drop k).take (m + 2 + 1)) / D < H := by
        rw [Nat.div_lt_iff_lt_mul (by have := hlt.out; omega), Nat.mul_comm]; exact hL
      have htk := takeOff_any wt.heap.size g8 (K + m + 2) cap8 k m (cap8 - k) g7 0 k1 R _ (dig H D) wr o8' hR.out (by omega) rfl Hdd.out.1 hwin hg78 sR sD (Hdd.out.2 _) (by rw [HvD.out]; exact hL) (by omega) hMl hc7'
      have Htk := hid htk; have Hql := hid hqlt
      clear htk hwin hL hqlt
      go_wp2_with fail
      rw [show k + (m + 2) + 1 - k = m + 2 + 1 by omega]
      refine Htk.out.mono ?_
      rintro e w4 ⟨X, hX, sX, rfl, hXv, o84, hgr⟩
      rw [HvD.out] at hXv ⊢
      have hst := long_step (k := k) (Z := Z) sR HD.out (by rw [hR.out]; omega) (by rw [hZ.out]; omega) hlt.out hv.out hX hXv
      have oq4 := oq.other hgr (by intro g hg; simp [Value.ownBlock] at hg; subst hg; simp; omega)
      have o74 := o7''.other hgr (by intro g hg; simp [Value.ownBlock] at hg; subst hg; simp; omega)
      obtain ⟨q, hq⟩ : ∃ q, q = val H ((R.drop k).take (m + 2 + 1)) / D := ⟨_, rfl⟩
      rw [← hq] at hst Hql ⊢
      obtain ⟨-, hst2, hst3⟩ := hst
      have Hst2 := hid hst2; have Hst3 := hid hst3; have HX := hid hX; have Hq := hid hq
      have hkZ : k < Z.length := by rw [hZ.out]; omega
      have cq := oq4.cell k hkZ
      obtain ⟨cq0, cq1⟩ := cq
      generalize Z[k] = zk at cq0
      have oqs := oq4.set k q
      have o85 := o84.other oqs.2 (by intro g hg; simp [Value.ownBlock] at hg; subst hg; simp; omega)
      have o75 := o74.other oqs.2 (by intro g hg; simp [Value.ownBlock] at hg; subst hg; simp; omega)
      have hR' : (R.take k ++ X ++ R.drop (k + (m + 2) + 1)).length = K + m + 2 := by have := hR.out; simp; omega
      have sR' : Small H (R.take k ++ X ++ R.drop (k + (m + 2) + 1)) := small_append (small_append (small_take sR _) sX) (small_drop sR _)
      have bel5 : Below w.heap.size w (w4.setCell ⟨w2.heap.size, k, none⟩ (.int .u32 (q : Nat))) :=
        (hbel.grown hgr hbel.size (by intro g hg; injection hg with hg; omega)).setCell (p := ⟨w2.heap.size, k, none⟩) (by show w.heap.size ≤ w2.heap.size; omega) _
      have HR' := hid hR'
      clear hst2 hst3 hX hq hXv hgr hR' hkZ oq4 o74 o84 oq o7'' o8' hbel
      go_wp2_with fail
      go_roundw
      case rel => exact ⟨k, _, Z.set k q, by omega, by go_num, o85, HR'.out, sR', oqs.1, by have := hZ.out; simp [Hid, this], small_set sZ _ Hql.out, o75, Hst2.out, Hst3.out, bel5⟩
      case measure => (simp [intOf] <;> omega)
    · obtain rfl : k = 0 := by omega
      have hend := long_end (r := val H R) (q := val H Z) (a := a) (b := b) (s := s) (by have := hv.out; rw [HDd.out] at this; simpa using this) (by have := hlt.out; rw [HDd.out] at this; simpa using this)
      obtain ⟨he1, he2⟩ := hend
      have htz := htrim_val _ Z wr oq.at
      have hsZ : strip Z = dig H (a / b) := by rw [strip_dig H2 sZ, he1]
      have oqt := (oq.take (strip Z).length (strip_length Z)).at
      rw [← strip_is_take] at oqt
      rw [hsZ] at htz oqt
      have hsd := shiftDown_any _ R s wr o8'.at sR hs31 (by rw [hR.out]; omega)
      rw [he2] at hsd
      have Htz := hid htz; have Hsd := hid hsd
      clear htz hsd hsZ he1 he2 hv hlt o7'' o8' oq
      simp only [cutTo] at Htz
      go_wp2_with fail
      refine Htz.out.mono ?_
      rintro e w' ⟨rfl, rfl⟩
      go_wp2_with fail
      refine Hsd.out.mono ?_
      rintro e w6 ⟨v6, rfl, ho6, hb6⟩
      go_wp2_with fail
      go_ret2
      exact ⟨_, _, rfl, oqt.below hb6, ho6.at, Below.go hb6 hbel⟩
end Go.Proofs.YtnfohbpgnbfmeaaGreatDoor
/- whole.Div, given what whole.divide answers. -/
namespace Go.Proofs.YtnfohbpgnbfmeaaGreatDoor
open Go.RowKit Big

def RDiv (q r : Int) (c : Int) (w : World) (e : Ending) (w' : World) : Prop := ∃ v v', e = .returned (.tuple #[v, v', .int .i64 c]) ∧ IntAt w' v q ∧ IntAt w' v' r ∧ Below w.heap.size w w'

theorem Pair.other {w : World} {g g' : Nat} {t : TypeId} (h : Pair w g t) (hne : g ≠ g') (j : Nat) (u : Value) : Pair (w.setCell ⟨g', j, none⟩ u) g t := by
  obtain ⟨x, p, n, c, hh⟩ := h
  exact ⟨x, p, n, c, (Below.heap_setCell w ⟨g', j, none⟩ u g hne).trans hh⟩
theorem cutTo_slice (p : Option Addr) (n c m : Nat) : cutTo (.slice p n c) m = .slice p m c := rfl
theorem div_pos_case {x y : Nat} (n1 : Bool) (_ : 0 < y) : (x : Int) / sg n1 y = sg (false != n1) (x / y) ∧ (x : Int) % sg n1 y = ((x % y : Nat) : Int) := by
  cases n1
  · simp [sg]
  · simp [sg, Int.ediv_neg, Int.emod_neg]
theorem div_neg_even {x y : Nat} (n1 : Bool) (hy : 0 < y) (h : x % y = 0) : (-(x : Int)) / sg n1 y = sg (true != n1) (x / y) ∧ (-(x : Int)) % sg n1 y = 0 := by
  have e : x = y * (x / y) := by have := Nat.div_add_mod x y; omega
  have key : (-(x : Int)) / (y : Int) = -((x / y : Nat) : Int) ∧ (-(x : Int)) % (y : Int) = 0 := by
    refine (Int.ediv_emod_unique (by omega)).2 ⟨?_, by omega, by omega⟩
    have : (x : Int) = (y : Int) * ((x / y : Nat) : Int) := by rw [← Int.natCast_mul, ← e]
    rw [Int.mul_neg, ← this]; omega
  cases n1
  · simpa [sg] using key
  · simp only [sg, if_true, Int.ediv_neg, Int.emod_neg, key.1, key.2]; simp
theorem div_neg_odd {x y : Nat} (n1 : Bool) (hy : 0 < y) (h : 0 < x % y) : (-(x : Int)) / sg n1 y = sg (true != n1) (x / y + 1) ∧ (-(x : Int)) % sg n1 y = ((y - x % y : Nat) : Int) := by
  have hlt := Nat.mod_lt x hy
  have e : (x : Int) = (y : Int) * ((x / y : Nat) : Int) + ((x % y : Nat) : Int) := by
    rw [← Int.natCast_mul, ← Int.natCast_add, Nat.div_add_mod]
  have key : (-(x : Int)) / (y : Int) = -((x / y + 1 : Nat) : Int) ∧ (-(x : Int)) % (y : Int) = ((y - x % y : Nat) : Int) := by
    refine (Int.ediv_emod_unique (by omega)).2 ⟨?_, by omega, by omega⟩
    rw [e]
    generalize x / y = q at *
    generalize x % y = r at *
    have : ((y - r : Nat) : Int) = (y : Int) - (r : Int) := by omega
    rw [this]
    push_cast
    grind
  cases n1
  · simpa [sg] using key
  · simp only [sg, if_true, Int.ediv_neg, Int.emod_neg, key.1, key.2]; simp

set_option maxRecDepth 100000 in
set_option maxHeartbeats 3200000 in
theorem Div_of (v0 v1 : Value) (a b : Int) (w : World) (h0 : RawAt w v0 a) (h1 : RawAt w v1 b) (hb0 : b ≠ 0)
    (hdiv : ∀ W' u u', At W' .u64 u (dig W a.natAbs) → At W' .u64 u' (dig W b.natAbs) → Calls Tryz.prog 85 #[u, u'] W' (RTwoNat (a.natAbs / b.natAbs) (a.natAbs % b.natAbs) W')) :
    Calls Tryz.prog 69 #[v0, v1] w (RDiv (a / b) (a % b) 0 w) := by
  obtain ⟨n0, s0, l0, rfl, a0, b0, c0, rfl⟩ := h0
  obtain ⟨n1, s1, l1, rfl, a1, b1, c1, rfl⟩ := h1
  rw [sg_natAbs, sg_natAbs] at hdiv
  have t0 : ∀ W : World, At W .u64 s0 l0 → Calls Tryz.prog 46 #[s0] W (fun e w' => e = .returned (cutTo s0 (strip l0).length) ∧ w' = W) := fun W h => trim_val s0 l0 W h
  have t1 : ∀ W : World, At W .u64 s1 l1 → Calls Tryz.prog 46 #[s1] W (fun e w' => e = .returned (cutTo s1 (strip l1).length) ∧ w' = W) := fun W h => trim_val s1 l1 W h
  have T0 := hid t0; have T1 := hid t1; have HD := hid hdiv
  have d0 := hid (strip_dig W2 b0)
  have d1 := hid (strip_dig W2 b1)
  have m0 : sz W (val W l0) ≤ 1099511627776 := Nat.le_trans (sz_val W2 b0) c0
  have m1 : sz W (val W l1) ≤ 1099511627776 := Nat.le_trans (sz_val W2 b1) c1
  obtain ⟨Q, hQ⟩ : ∃ Q, Q = sg n0 (val W l0) / sg n1 (val W l1) := ⟨_, rfl⟩
  obtain ⟨R, hR⟩ : ∃ R, R = sg n0 (val W l0) % sg n1 (val W l1) := ⟨_, rfl⟩
  rw [← hQ, ← hR]
  have HQ := hid hQ; have HR := hid hR
  have hy : 0 < val W l1 := Nat.pos_of_ne_zero fun e => hb0 (by rw [e, sg_zero])
  clear t0 t1 hdiv hQ hR hb0
  obtain ⟨p1, k1, rfl, -⟩ := id a1
  go_enter Tryz.func69, Tryz.ntmps69
  go_wp2_with fail
  go_quiet ((first
    | (go_at_call_of 46 (s0); exact Calls.quiet_of_same (T0.out _ (by repeat (first | exact a0 | apply At.drewN | apply At.drew | apply At.alloc))))
    | (go_at_call 46; exact Calls.quiet_of_same (T1.out _ (by repeat (first | exact a1 | apply At.drewN | apply At.drew | apply At.alloc))))))
  generalize hW : World.drewN (World.alloc (World.alloc (World.alloc (World.alloc w _) _) _) _) _ = W3
  have bw : Below w.heap.size w W3 := by rw [← hW]; exact below_drewN ((((below1 _ _).alloc (by simp) _).alloc (by simp; omega) _).alloc (by simp; omega) _) _
  have hp : Pair W3 (w.heap.size + 1 + 1) 35 := by rw [← hW]; exact Pair.below (Pair.new2 ..) (below_drewN (below1 _ _) _)
  have hp' : Pair W3 (w.heap.size + 1 + 1 + 1) 35 := by rw [← hW]; exact Pair.new3 ..
  have tw : Two W3 w.heap.size (.bool n0) s0 (.bool n1) (.slice p1 l1.length k1) := by
    rw [← hW]; exact (Two.new w _ _ _ _ _).below (below_drewN ((below1 _ _).alloc (by simp) _) _)
  have z3 : w.heap.size + 4 ≤ W3.heap.size := by rw [← hW]; simp
  have A0 : At W3 .u64 (cutTo s0 (strip l0).length) (dig W (val W l0)) := by have := (a0.below bw).strip; rwa [d0.out] at this ⊢
  have A1 : At W3 .u64 (cutTo (.slice p1 l1.length k1) (strip l1).length) (dig W (val W l1)) := by have := (a1.below bw).strip; rwa [d1.out] at this ⊢
  have bw' := hid bw
  have hlen : ((strip l1).length : Nat) ≠ 0 := by rw [d1.out]; exact fun e => by have := (sz_eq_zero W2).1 (show sz W _ = 0 from e); omega
  have hlb : (((strip l1).length : Int) == 0) = false := beq_eq_false_iff_ne.2 (by omega)
  simp only [cutTo_slice] at A1 ⊢
  generalize cutTo s0 (strip l0).length = u0 at *
  generalize (strip l1).length = len1 at *
  generalize val W l0 = x at *
  generalize val W l1 = y at *
  clear hW bw T0 T1 a0 a1 d0 d1 b0 b1 c0 c1 hlen
  go_wp2_with fail
  refine (HD.out W3 _ _ A0 A1).mono ?_
  rintro e W4 ⟨q, r, rfl, hq, hr, hb4⟩
  have tw4 := tw.below hb4
  have hp4 := hp.below hb4
  have hp4' := hp'.below hb4
  have A1' := A1.below hb4
  have bw4 := hid (bw'.out.trans (hb4.mono (B' := w.heap.size) (by omega)))
  have z4 : w.heap.size + 4 ≤ W4.heap.size := Nat.le_trans z3 hb4.size
  clear HD A0 A1 tw hp hp' hb4 bw' z3
  have hsq : sz W (x / y) ≤ 1099511627776 := Nat.le_trans (sz_mono W2 (Nat.div_le_self x y)) m0
  obtain ⟨pr, cr, rfl, -⟩ := id hr
  cases n0
  · obtain ⟨c00, -, c10, -, -⟩ := id tw4
    have EQ : Q = sg n1 (x / y) := by rw [HQ.out]; have := (div_pos_case (x := x) n1 hy).1; simpa [sg] using this
    have ER : R = sg false (x % y) := by rw [HR.out]; have := (div_pos_case (x := x) n1 hy).2; simpa [sg] using this
    have HEQ := hid EQ; have HER := hid ER
    clear EQ ER HQ HR
    go_wp2_with fail
    refine (told_any n1 _ (x / y) _ hq).mono ?_
    rintro e W6 ⟨v6, rfl, hi6, hb6⟩
    have hr6 := hr.below hb6
    have z6 : w.heap.size + 4 ≤ W6.heap.size := Nat.le_trans z4 hb6.size
    go_wp2_with fail
    refine (told_any false _ (x % y) _ hr6).mono ?_
    rintro e W7 ⟨v7, rfl, hi7, hb7⟩
    obtain ⟨p6, n6, c6, rfl, hi6'⟩ := (hi6.below hb7).shape
    obtain ⟨p7, n7, c7, rfl, hi7'⟩ := hi7.shape
    have hpA := (hp4.below hb6).below hb7
    have hpB := (hp4'.below hb6).below hb7
    obtain ⟨_, _, q0, q1, q2, q3⟩ := hpA.cells
    obtain ⟨_, _, r0, r1, r2, r3⟩ := hpB.cells
    have bw7 : Below w.heap.size w W7 := (bw4.out.trans (hb6.mono (B' := w.heap.size) (by omega))).trans (hb7.mono (B' := w.heap.size) (by omega))
    have Hi6 := hid hi6'; have Hi7 := hid hi7'
    clear hi6' hi7' hi6 hi7 hb6 hb7 hr6 tw4 hp4 hp4' hq hr
    go_wp2
    have hpB' := (hpB.other (g' := w.heap.size + 1 + 1) (by omega) 0 (.bool (decide (sg n1 (x / y) < 0)))).other (g' := w.heap.size + 1 + 1) (by omega) 1 (.slice p6 n6 c6)
    exact bodyPost_ret (v := .tuple #[.agg #[.bool (decide (sg n1 (x / y) < 0)), .slice p6 n6 c6], .agg #[.bool (decide (sg false (x % y) < 0)), .slice p7 n7 c7], .int .i64 0])
      (by simp [results, Tryz.results69, go_sem, q0, q1, r0, r1]) rfl
      ⟨_, _, rfl, by rw [HEQ.out]; exact (Hi6.out.stored hpA _ _ _ _).stored hpB' _ _ _ _, by rw [HER.out]; exact (Hi7.out.stored hpA _ _ _ _).stored hpB' _ _ _ _,
        Below.stored (Below.stored bw7 (by omega) _ _) (by omega) _ _⟩
  · obtain ⟨c00, -, c10, -, -⟩ := id tw4
    by_cases hr0 : x % y = 0
    · have EQ : Q = sg (!n1) (x / y) := by rw [HQ.out]; have := (div_neg_even n1 hy hr0).1; simpa [sg] using this
      have ER : R = sg false (x % y) := by rw [HR.out, hr0]; have := (div_neg_even n1 hy hr0).2; simpa [sg] using this
      have HEQ := hid EQ; have HER := hid ER
      have hl0 : (dig W (x % y)).length = 0 := by rw [hr0]; rfl
      rw [hl0] at hr ⊢
      clear EQ ER HQ HR hl0 hr0
      go_wp2_with fail
      refine (told_any (!n1) _ (x / y) _ hq).mono ?_
      rintro e W6 ⟨v6, rfl, hi6, hb6⟩
      have hr6 := hr.below hb6
      have z6 : w.heap.size + 4 ≤ W6.heap.size := Nat.le_trans z4 hb6.size
      go_wp2_with fail
      refine (told_any false _ (x % y) _ hr6).mono ?_
      rintro e W7 ⟨v7, rfl, hi7, hb7⟩
      obtain ⟨p6, n6, c6, rfl, hi6'⟩ := (hi6.below hb7).shape
      obtain ⟨p7, n7, c7, rfl, hi7'⟩ := hi7.shape
      have hpA := (hp4.below hb6).below hb7
      have hpB := (hp4'.below hb6).below hb7
      obtain ⟨_, _, q0, q1, q2, q3⟩ := hpA.cells
      obtain ⟨_, _, r0, r1, r2, r3⟩ := hpB.cells
      have bw7 : Below w.heap.size w W7 := (bw4.out.trans (hb6.mono (B' := w.heap.size) (by omega))).trans (hb7.mono (B' := w.heap.size) (by omega))
      have Hi6 := hid hi6'; have Hi7 := hid hi7'
      clear hi6' hi7' hi6 hi7 hb6 hb7 hr6 tw4 hp4 hp4' hq hr
      go_wp2
      have hpB' := (hpB.other (g' := w.heap.size + 1 + 1) (by omega) 0 (.bool (decide (sg (!n1) (x / y) < 0)))).other (g' := w.heap.size + 1 + 1) (by omega) 1 (.slice p6 n6 c6)
      exact bodyPost_ret (v := .tuple #[.agg #[.bool (decide (sg (!n1) (x / y) < 0)), .slice p6 n6 c6], .agg #[.bool (decide (sg false (x % y) < 0)), .slice p7 n7 c7], .int .i64 0])
        (by simp [results, Tryz.results69, go_sem, q0, q1, r0, r1]) rfl
        ⟨_, _, rfl, by rw [HEQ.out]; exact (Hi6.out.stored hpA _ _ _ _).stored hpB' _ _ _ _, by rw [HER.out]; exact (Hi7.out.stored hpA _ _ _ _).stored hpB' _ _ _ _,
          Below.stored (Below.stored bw7 (by omega) _ _) (by omega) _ _⟩
    · have EQ : Q = sg (!n1) (x / y + 1) := by rw [HQ.out]; have := (div_neg_odd n1 hy (Nat.pos_of_ne_zero hr0)).1; simpa [sg] using this
      have ER : R = sg false (y - x % y) := by rw [HR.out]; have := (div_neg_odd n1 hy (Nat.pos_of_ne_zero hr0)).2; simpa [sg] using this
      have HEQ := hid EQ; have HER := hid ER
      have hl0 : 0 < (dig W (x % y)).length := Nat.pos_of_ne_zero fun e => hr0 ((sz_eq_zero W2).1 e)
      have hd1 : dig W 1 = [1] := dig_one W2 (by decide) (by decide)
      have hlt := Nat.mod_lt x hy
      have HR' := hid hr
      have hpl : ∀ W', Calls Tryz.prog 82 #[q, .slice (some ⟨World.heap W' |>.size, 0, none⟩) 1 1] (W'.alloc (.cells #[.int .u64 1] 84)) (ROwn 84 .u64 (dig W (x / y + 1)) (W'.alloc (.cells #[.int .u64 1] 84))) ∨ ¬ At W' .u64 q (dig W (x / y)) := fun W' => by
        by_cases h : At W' .u64 q (dig W (x / y))
        · left
          exact plus_any q _ (x / y) 1 _ (h.alloc _) (by rw [hd1]; exact At.oneI W' .u64 1 1 _ rfl) hsq (by rw [show sz W 1 = 1 by unfold sz; rw [hd1]; rfl]; omega)
        · right; exact h
      have Hpl : Hid (Calls Tryz.prog 82 #[q, .slice (some ⟨World.heap W4 |>.size, 0, none⟩) 1 1] (W4.alloc (.cells #[.int .u64 1] 84)) (ROwn 84 .u64 (dig W (x / y + 1)) (W4.alloc (.cells #[.int .u64 1] 84)))) := (hpl W4).resolve_right (fun h => h hq)
      clear EQ ER HQ HR hpl hd1
      generalize (dig W (x % y)).length = lr at *
      go_wp2_with fail
      refine Hpl.out.mono ?_
      rintro e W5 ⟨q5, rfl, ho5, hb5⟩
      have b45 : Below W4.heap.size W4 W5 := (below1 _ _).trans (hb5.mono (B' := W4.heap.size) (by simp))
      have tw5 := tw4.below b45
      have z5 : w.heap.size + 4 ≤ W5.heap.size := Nat.le_trans z4 b45.size
      clear hb5 c00 c10
      go_wp2_with fail
      refine (minus_any _ _ y (x % y) _ (A1'.below b45) (HR'.out.below b45) (Nat.le_of_lt hlt) m1).mono ?_
      rintro e W5' ⟨r5, rfl, hr5, hb5'⟩
      have hq5 := ho5.at.below hb5'
      obtain ⟨c00, -, c10, -, z5'⟩ := tw5.below hb5'
      have hp5 := (hp4.below b45).below hb5'
      have hp5' := (hp4'.below b45).below hb5'
      have bw5 := hid ((bw4.out.trans (b45.mono (B' := w.heap.size) (by omega))).trans (hb5'.mono (B' := w.heap.size) (by omega)))
      have z55 : w.heap.size + 4 ≤ W5'.heap.size := Nat.le_trans z5 hb5'.size
      clear ho5 b45 tw5 hb5' A1' HR'
      go_wp2_with fail
      refine (told_any (!n1) _ (x / y + 1) _ hq5).mono ?_
      rintro e W6 ⟨v6, rfl, hi6, hb6⟩
      have hr6 := hr5.below hb6
      have z6 : w.heap.size + 4 ≤ W6.heap.size := Nat.le_trans z55 hb6.size
      go_wp2_with fail
      refine (told_any false _ (y - x % y) _ hr6).mono ?_
      rintro e W7 ⟨v7, rfl, hi7, hb7⟩
      obtain ⟨p6, n6, c6, rfl, hi6'⟩ := (hi6.below hb7).shape
      obtain ⟨p7, n7, c7, rfl, hi7'⟩ := hi7.shape
      have hpA := (hp5.below hb6).below hb7
      have hpB := (hp5'.below hb6).below hb7
      obtain ⟨_, _, q0, q1, q2, q3⟩ := hpA.cells
      obtain ⟨_, _, r0, r1, r2, r3⟩ := hpB.cells
      have bw7 : Below w.heap.size w W7 := (bw5.out.trans (hb6.mono (B' := w.heap.size) (by omega))).trans (hb7.mono (B' := w.heap.size) (by omega))
      have Hi6 := hid hi6'; have Hi7 := hid hi7'
      clear hi6' hi7' hi6 hi7 hb6 hb7 hr6 tw4 hp4 hp4' hq hr
      go_wp2
      have hpB' := (hpB.other (g' := w.heap.size + 1 + 1) (by omega) 0 (.bool (decide (sg (!n1) (x / y + 1) < 0)))).other (g' := w.heap.size + 1 + 1) (by omega) 1 (.slice p6 n6 c6)
      exact bodyPost_ret (v := .tuple #[.agg #[.bool (decide (sg (!n1) (x / y + 1) < 0)), .slice p6 n6 c6], .agg #[.bool (decide (sg false (y - x % y) < 0)), .slice p7 n7 c7], .int .i64 0])
        (by simp [results, Tryz.results69, go_sem, q0, q1, r0, r1]) rfl
        ⟨_, _, rfl, by rw [HEQ.out]; exact (Hi6.out.stored hpA _ _ _ _).stored hpB' _ _ _ _, by rw [HER.out]; exact (Hi7.out.stored hpA _ _ _ _).stored hpB' _ _ _ _,
          Below.stored (Below.stored bw7 (by omega) _ _) (by omega) _ _⟩
end Go.Proofs.YtnfohbpgnbfmeaaGreatDoor
/- whole.divideHalves, whole.divide, whole.Div. -/
namespace Go.Proofs.YtnfohbpgnbfmeaaGreatDoor
open Go.RowKit Big

set_option maxRecDepth 100000 in
set_option maxHeartbeats 3200000 in
theorem divideHalves_any (v0 v1 : Value) (a b : Nat) (w : World) (h0 : At w .u32 v0 (dig H a)) (h1 : At w .u32 v1 (dig H b)) (hb : 0 < b) (hlen : (dig H a).length ≤ 2199023255552) (hlen' : (dig H b).length ≤ 2199023255552) :
    Calls Tryz.prog 98 #[v0, v1] w (RQuo (a / b) (a % b) w) := by
  have H0 := hid h0; have H1 := hid h1
  by_cases hlt : (dig H a).length < (dig H b).length
  · have hab : a < b := lt_of_sz_lt H2 hlt
    have e1 : a / b = 0 := Nat.div_eq_of_lt hab
    have e2 : a % b = a := Nat.mod_eq_of_lt hab
    rw [e1, e2]
    obtain ⟨p0, c0, rfl, -⟩ := h0
    obtain ⟨p1, c1, rfl, -⟩ := h1
    obtain ⟨la, hla⟩ : ∃ n, n = (dig H a).length := ⟨_, rfl⟩
    obtain ⟨lb, hlb⟩ : ∃ n, n = (dig H b).length := ⟨_, rfl⟩
    have Hla := hid hla
    rw [← hla, ← hlb] at hlt
    rw [← hla] at hlen ⊢
    rw [← hlb] at hlen' ⊢
    rw [← hla] at H0
    clear hla hlb e1 e2 hab H1
    go_enter Tryz.func98, Tryz.ntmps98
    go_wp2_with (at_builtin; refine wpList_append_at rfl _ _ 139 rfl elemHalves w.heap.size _ [] rfl (Own.nil ..) _ (dig H a) rfl H0.out (by rw [← Hla.out]; simp [maxLen]; omega) (by rw [← Hla.out]; simp; omega) (Nat.le_refl _) ?_; intro v2 w2 ho2 hb2 hs2)
    go_ret2
    exact ⟨_, _, rfl, by exact At.nil _ _, ho2.at, hb2⟩
  · by_cases hl1 : (dig H b).length = 1
    · have hbH : b < H := by
        have := lt_pow_sz H2 b
        rwa [show sz H b = 1 from hl1, Nat.pow_one] at this
      have hd1 := dig_one H2 hb hbH
      obtain ⟨p1, c1, rfl, b1, b2, b3, b4⟩ := id h1
      obtain ⟨bb, off, rfl, hbb, hcell⟩ := b4 (by omega)
      have hc := hcell 0 (by omega)
      simp only [hd1, List.getElem_cons_zero, Nat.add_zero] at hc
      obtain ⟨p0, c0, rfl, -⟩ := id h0
      obtain ⟨la, hla⟩ : ∃ n, n = (dig H a).length := ⟨_, rfl⟩
      have Hla := hid hla
      rw [← hla] at hlen hlt H0 ⊢
      rw [hl1] at hlt b1 ⊢
      have hsh := fun (W' : World) (v : Value) (hv : Own W' w.heap.size 157 .u32 v (dig H a)) => divideShort_any w.heap.size v (dig H a) b W' hv (small_dig H2 a) hb hbH
      rw [val_dig H2] at hsh
      have Hsh := hid hsh
      unfold maxLen at b2
      clear hla hsh hd1 hcell b4 b3 hl1 h0 h1 H1
      go_enter Tryz.func98, Tryz.ntmps98
      go_wp2_with fail
      go_region_held3 (fun w' => w'.cell? ⟨bb, off, none⟩ = some (.int .u32 (b : Nat)))
        (first | assumption | (simp; assumption) | (exact (hb2.cell (p := ⟨bb, off, none⟩) hbb).trans hc) | (exact hcell3))
        (first
          | (refine step_append_at (by rfl) _ _ 139 (by rfl) elemHalves w.heap.size _ [] (by rfl) (Own.nil ..) _ (dig H a) (by rfl) H0.out.drew (by rw [← Hla.out]; simp [maxLen]; omega) (by rw [← Hla.out]; simp; omega) (Nat.le_refl _) ?_; intro v2 w2 ho2 hb2 hs2)
          | (go_at_call 115; refine (Hsh.out _ _ ho2).mono ?_; rintro e w3 ⟨rfl, ho3, hg3⟩; have hcell3 : w3.cell? ⟨bb, off, none⟩ = some (.int .u32 (b : Nat)) := (World.cell?_of_block (w := w2) (hg3.block bb (Nat.lt_of_lt_of_le hbb hb2.size) (fun e => by have := ho2.row bb e.symm; omega))).trans ((hb2.cell (p := ⟨bb, off, none⟩) hbb).trans hc)))
      have hr : a % b < 4294967296 := Nat.lt_trans (Nat.mod_lt _ hb) hbH
      have er : (a : Int) % (b : Int) = ((a % b : Nat) : Int) := (Int.natCast_emod a b).symm
      rw [er]
      have hq := ho3.at
      have bel3 : Below w.heap.size w w3 := (((Below.refl _ w).drew.trans hb2).grown hg3 hb2.size ho2.row)
      obtain ⟨r, hrd⟩ : ∃ r, r = a % b := ⟨_, rfl⟩
      rw [← hrd] at hr ⊢
      have Hrd := hid hrd
      have hstr : strip [r] = dig H r := by
        have h1 : Small H [r] := small_cons hr (small_nil _)
        have := strip_dig H2 h1
        simpa [val] using this
      have hat := At.one w3 .u32 r 157
      have htr := htrim_val _ _ _ hat
      have hat' := hat.cut (strip [r]).length (strip_length _)
      rw [← strip_is_take, hstr] at hat'
      rw [hstr] at htr
      have Htr := hid htr; have Hat := hid hat'; have Bel := hid bel3; have HQ := hid hq
      clear htr hstr hat hat' hrd er bel3 hq ho3 hg3 ho2 Hsh
      generalize cutTo v2 (sz H (a / b)) = vq at *
      go_wp2_with fail
      refine Htr.out.mono ?_
      rintro e w' ⟨rfl, rfl⟩
      go_wp2_with fail
      go_ret2
      exact ⟨_, _, rfl, HQ.out.alloc _, by rw [← Hrd.out]; exact Hat.out, Below.go (below1 _ _) Bel.out⟩
    · have hl0 : (dig H b).length ≠ 0 := fun e => by
        have := (dig_eq_nil H2).1 (List.eq_nil_of_length_eq_zero e)
        omega
      obtain ⟨m, hm⟩ : ∃ m, (dig H b).length = m + 2 := ⟨(dig H b).length - 2, by omega⟩
      have hd := divideLong_any v0 v1 a b w h0 h1 m hm (by omega) hlen
      have Hd := hid hd
      obtain ⟨p0, c0, rfl, -⟩ := h0
      obtain ⟨p1, c1, rfl, -⟩ := h1
      have hbe : (((dig H b).length : Int) == 1) = false := beq_eq_false_iff_ne.2 (by omega)
      generalize (dig H a).length = la at *
      generalize (dig H b).length = lb at *
      clear hd hm hl0 hl1 H0 H1
      go_enter Tryz.func98, Tryz.ntmps98
      go_wp2_with fail
      refine Hd.out.mono ?_
      rintro e w1 ⟨q, r, rfl, hq, hr, hb1⟩
      go_wp2_with fail
      go_ret2
      exact ⟨_, _, rfl, hq, hr, hb1⟩

set_option maxRecDepth 100000 in
set_option maxHeartbeats 3200000 in
theorem divide_any (v0 v1 : Value) (n m : Nat) (w : World) (h0 : At w .u64 v0 (dig W n)) (h1 : At w .u64 v1 (dig W m)) (hm0 : 0 < m) (hn : sz W n ≤ 1099511627776) (hm : sz W m ≤ 1099511627776) :
    Calls Tryz.prog 85 #[v0, v1] w (RTwoNat (n / m) (n % m) w) := by
  by_cases hs : n < W ∧ m < W
  · exact divide_small v0 v1 n m w h0 h1 hs.1 hs.2 hm0
  · have s0 : ∀ W', Below w.heap.size w W' → Calls Tryz.prog 97 #[v0] W' (ROwn 157 .u32 (dig H n) W') := fun W' hb => by
      have := split_any v0 (dig W n) W' (h0.below hb) (small_dig W2 n) hn
      rwa [val_dig W2] at this
    have s1 : ∀ W', Below w.heap.size w W' → Calls Tryz.prog 97 #[v1] W' (ROwn 157 .u32 (dig H m) W') := fun W' hb => by
      have := split_any v1 (dig W m) W' (h1.below hb) (small_dig W2 m) hm
      rwa [val_dig W2] at this
    have b0 : sz H n ≤ 2199023255552 := Nat.le_trans (sz_H_W n) (by omega)
    have b1 : sz H m ≤ 2199023255552 := Nat.le_trans (sz_H_W m) (by omega)
    have dh : ∀ W' u u', At W' .u32 u (dig H n) → At W' .u32 u' (dig H m) → Calls Tryz.prog 98 #[u, u'] W' (RQuo (n / m) (n % m) W') := fun W' u u' hu hu' => divideHalves_any u u' n m W' hu hu' hm0 b0 b1
    have hc := compare_any v0 v1 n m w h0 h1
    have hst : strip (dig W n) = dig W n := by rw [strip_dig W2 (small_dig W2 n), val_dig W2]
    have hw0 := fun k => own_any v0 (dig W n) (w.drewN k) (h0.drewN k) (by show sz W n ≤ _; omega)
    rw [hst] at hw0
    have q0 : sz H (n / m) ≤ 4398046511104 := Nat.le_trans (sz_mono H2 (Nat.div_le_self n m)) (by omega)
    have q1 : sz H (n % m) ≤ 4398046511104 := Nat.le_trans (sz_mono H2 (Nat.mod_le n m)) (by omega)
    have S0 := hid s0; have S1 := hid s1; have Dh := hid dh; have Hc := hid hc; have Hw := hid hw0; have Q0 := hid q0; have Q1 := hid q1
    have hguard : ¬ ((dig W n).length ≤ 1 ∧ (dig W m).length ≤ 1) := fun h => hs ⟨
      Nat.lt_of_lt_of_le (lt_pow_sz W2 n) (Nat.le_trans (Nat.pow_le_pow_right (by decide) (show sz W n ≤ 1 from h.1)) (by simp)),
      Nat.lt_of_lt_of_le (lt_pow_sz W2 m) (Nat.le_trans (Nat.pow_le_pow_right (by decide) (show sz W m ≤ 1 from h.2)) (by simp))⟩
    obtain ⟨p0, c0, rfl, -⟩ := h0
    obtain ⟨p1, c1, rfl, -⟩ := h1
    have hg2 : ¬ (dig W n).length ≤ 1 ∨ ((dig W n).length ≤ 1 ∧ ¬ (dig W m).length ≤ 1) := by
      rcases Nat.lt_or_ge 1 (dig W n).length with h | h
      · exact Or.inl (by omega)
      · exact Or.inr ⟨h, fun h' => hguard ⟨h, h'⟩⟩
    obtain ⟨ln, hln⟩ : ∃ k, k = (dig W n).length := ⟨_, rfl⟩
    obtain ⟨lm, hlm⟩ : ∃ k, k = (dig W m).length := ⟨_, rfl⟩
    rw [← hln, ← hlm] at hg2
    rw [← hln] at S0 Hc Hw ⊢
    rw [← hlm] at S1 Hc ⊢
    clear s0 s1 dh hc hw0 q0 q1 hln hlm hguard hst b0 b1 hs
    rcases hg2 with hg | ⟨hg, hg'⟩
    · have hd : decide ((ln : Int) ≤ 1) = false := decide_eq_false (by omega)
      by_cases hnm : n < m
      · have ho : ord (n : Int) m = -1 := ord_lt (by omega)
        rw [ho] at Hc
        have e1 : n / m = 0 := Nat.div_eq_of_lt hnm
        have e2 : n % m = n := Nat.mod_eq_of_lt hnm
        rw [e1, e2]
        clear ho e1 e2 hnm S0 S1 Dh Q0 Q1
        go_enter Tryz.func85, Tryz.ntmps85
        go_wp2_with fail
        refine Hc.out.mono ?_
        rintro e w1 ⟨rfl, k, rfl⟩
        go_wp2_with fail
        refine (Hw.out k).mono ?_
        rintro e w2 ⟨v2, rfl, ho2, hb2⟩
        go_wp2_with fail
        go_ret2
        exact ⟨_, _, rfl, At.nil _ _, ho2.at, (below_drewN (Below.refl _ _) k).trans hb2⟩
      · obtain ⟨o, ho⟩ : ∃ o : Int, o = ord (n : Int) m := ⟨_, rfl⟩
        have ho0 : 0 ≤ o := by
          rw [ho]
          rcases Nat.lt_or_ge m n with h | h
          · rw [ord_gt (by omega)]; decide
          · rw [show n = m by omega, ord_eq]; decide
        have ho1 : ¬ o < 0 := by omega
        rw [← ho] at Hc
        have Q := hid (show (n / m) = n / m from rfl)
        clear ho hnm
        go_enter Tryz.func85, Tryz.ntmps85
        go_wp2_with fail
        refine Hc.out.mono ?_
        rintro e w1 ⟨rfl, k, rfl⟩
        go_wp2_with fail
        refine (S0.out _ (below_drewN (Below.refl _ _) k)).mono ?_
        rintro e w2 ⟨u, rfl, hu, hu1⟩
        have b12 := hid ((below_drewN (Below.refl w.heap.size w) k).trans hu1)
        clear hu1
        go_wp2_with fail
        refine (S1.out _ b12.out).mono ?_
        rintro e w3 ⟨u', rfl, hu', hu2⟩
        have b13 := hid (Below.go hu2 b12.out)
        have au := hu.at.below hu2
        clear hu2
        go_wp2_with fail
        refine (Dh.out _ _ _ au hu'.at).mono ?_
        rintro e w4 ⟨q, r, rfl, hq, hr, hb4⟩
        have b14 := hid (Below.go hb4 b13.out)
        clear hb4 au hu hu'
        go_wp2_with fail
        refine (join_any q (n / m) _ hq Q0.out).mono ?_
        rintro e w5 ⟨q5, rfl, ho5, hb5⟩
        have b15 := hid (Below.go hb5 b14.out)
        have hr5 := hr.below hb5
        clear hb5
        go_wp2_with fail
        refine (join_any r (n % m) _ hr5 Q1.out).mono ?_
        rintro e w6 ⟨r6, rfl, ho6, hb6⟩
        have b16 := hid (Below.go hb6 b15.out)
        have aq := ho5.at.below hb6
        clear hb6
        go_wp2_with fail
        go_ret2
        exact ⟨_, _, rfl, aq, ho6.at, b16.out⟩
    · have hd : decide ((ln : Int) ≤ 1) = true := decide_eq_true (by omega)
      have hd' : decide ((lm : Int) ≤ 1) = false := decide_eq_false (by omega)
      by_cases hnm : n < m
      · have ho : ord (n : Int) m = -1 := ord_lt (by omega)
        rw [ho] at Hc
        have e1 : n / m = 0 := Nat.div_eq_of_lt hnm
        have e2 : n % m = n := Nat.mod_eq_of_lt hnm
        rw [e1, e2]
        clear ho e1 e2 hnm S0 S1 Dh Q0 Q1
        go_enter Tryz.func85, Tryz.ntmps85
        go_wp2_with fail
        refine Hc.out.mono ?_
        rintro e w1 ⟨rfl, k, rfl⟩
        go_wp2_with fail
        refine (Hw.out k).mono ?_
        rintro e w2 ⟨v2, rfl, ho2, hb2⟩
        go_wp2_with fail
        go_ret2
        exact ⟨_, _, rfl, At.nil _ _, ho2.at, (below_drewN (Below.refl _ _) k).trans hb2⟩
      · obtain ⟨o, ho⟩ : ∃ o : Int, o = ord (n : Int) m := ⟨_, rfl⟩
        have ho0 : 0 ≤ o := by
          rw [ho]
          rcases Nat.lt_or_ge m n with h | h
          · rw [ord_gt (by omega)]; decide
          · rw [show n = m by omega, ord_eq]; decide
        have ho1 : ¬ o < 0 := by omega
        rw [← ho] at Hc
        have Q := hid (show (n / m) = n / m from rfl)
        clear ho hnm
        go_enter Tryz.func85, Tryz.ntmps85
        go_wp2_with fail
        refine Hc.out.mono ?_
        rintro e w1 ⟨rfl, k, rfl⟩
        go_wp2_with fail
        refine (S0.out _ (below_drewN (Below.refl _ _) k)).mono ?_
        rintro e w2 ⟨u, rfl, hu, hu1⟩
        have b12 := hid ((below_drewN (Below.refl w.heap.size w) k).trans hu1)
        clear hu1
        go_wp2_with fail
        refine (S1.out _ b12.out).mono ?_
        rintro e w3 ⟨u', rfl, hu', hu2⟩
        have b13 := hid (Below.go hu2 b12.out)
        have au := hu.at.below hu2
        clear hu2
        go_wp2_with fail
        refine (Dh.out _ _ _ au hu'.at).mono ?_
        rintro e w4 ⟨q, r, rfl, hq, hr, hb4⟩
        have b14 := hid (Below.go hb4 b13.out)
        clear hb4 au hu hu'
        go_wp2_with fail
        refine (join_any q (n / m) _ hq Q0.out).mono ?_
        rintro e w5 ⟨q5, rfl, ho5, hb5⟩
        have b15 := hid (Below.go hb5 b14.out)
        have hr5 := hr.below hb5
        clear hb5
        go_wp2_with fail
        refine (join_any r (n % m) _ hr5 Q1.out).mono ?_
        rintro e w6 ⟨r6, rfl, ho6, hb6⟩
        have b16 := hid (Below.go hb6 b15.out)
        have aq := ho5.at.below hb6
        clear hb6
        go_wp2_with fail
        go_ret2
        exact ⟨_, _, rfl, aq, ho6.at, b16.out⟩
end Go.Proofs.YtnfohbpgnbfmeaaGreatDoor
/- whole.Div of any numbers; whole.common and whole.Gcd. -/
namespace Go.Proofs.YtnfohbpgnbfmeaaGreatDoor
open Go.RowKit Big

theorem Div_any (v0 v1 : Value) (a b : Int) (w : World) (h0 : RawAt w v0 a) (h1 : RawAt w v1 b) (hb0 : b ≠ 0) : Calls Tryz.prog 69 #[v0, v1] w (RDiv (a / b) (a % b) 0 w) :=
  Div_of v0 v1 a b w h0 h1 hb0 (fun W' u u' hu hu' => divide_any u u' _ _ W' hu hu' (by omega) h0.sz h1.sz)

theorem gcd_step (a b : Nat) : Nat.gcd b (a % b) = Nat.gcd a b := by rw [Nat.gcd_comm a b, Nat.gcd_rec b a, Nat.gcd_comm]

def RWord (n : Nat) (w : World) (e : Ending) (w' : World) : Prop := e = .returned (.int .u64 (n : Nat)) ∧ ∃ k, w' = w.drewN k

set_option maxRecDepth 100000 in
set_option maxHeartbeats 1600000 in
theorem commonWord_any (a b : Nat) (w : World) (ha : a < W) (hb : b < W) : Calls Tryz.prog 95 #[.int .u64 (a : Nat), .int .u64 (b : Nat)] w (RWord (Nat.gcd a b) w) := by
  unfold W at ha hb
  go_enter Tryz.func95, Tryz.ntmps95
  go_wp2_with fail
  go_loopw [0, 1] (fun x y wr => ∃ (p q : Nat), x = .int .u64 (p : Nat) ∧ y = .int .u64 (q : Nat) ∧ p < 18446744073709551616 ∧ q < 18446744073709551616 ∧ Hid (Nat.gcd p q = Nat.gcd a b) ∧ Hid (∃ k, wr = w.drewN k)) (fun _ y _ => (intOf y).toNat)
  case atStart => exact ⟨a, b, rfl, rfl, ha, hb, rfl, 0, rfl⟩
  case round =>
    obtain ⟨p, q, rfl, rfl, hp, hq, hg, hw⟩ := hrel
    by_cases h0 : q = 0
    · subst h0
      have hres : Hid (p = Nat.gcd a b) := by have := hg.out; rw [Nat.gcd_zero_right] at this; exact this
      clear hg
      go_wp2
      go_ret
      exact ⟨by rw [← hres.out]; rfl, hw.out⟩
    · have hb1 : ((q : Int) == 0) = false := beq_eq_false_iff_ne.2 (by omega)
      have hb2 : ((q : Int) != 0) = true := by simp [bne, hb1]
      have hr : p % q < q := Nat.mod_lt _ (by omega)
      have er : (p : Int) % (q : Int) = ((p % q : Nat) : Int) := (Int.natCast_emod p q).symm
      have hg' := hid ((gcd_step p q).trans hg.out)
      have Er := hid er
      clear er hg h0
      go_wp2_with fail
      go_quiet (fail)
      rw [Er.out]
      generalize p % q = r at *
      go_wp2_with fail
      go_roundw
      case rel => exact ⟨q, r, rfl, rfl, hq, by omega, hg'.out, by obtain ⟨k, hk⟩ := hw.out; rw [hk]; exact ⟨_, drewN_twice ..⟩⟩
      case measure => (simp [intOf] <;> omega)

set_option maxRecDepth 100000 in
set_option maxHeartbeats 3200000 in
theorem common_any (v0 v1 : Value) (n m : Nat) (w : World) (h0 : At w .u64 v0 (dig W n)) (h1 : At w .u64 v1 (dig W m)) (hn : sz W n ≤ 1099511627776) (hm : sz W m ≤ 1099511627776) :
    Calls Tryz.prog 81 #[v0, v1] w (RAt .u64 (dig W (Nat.gcd n m)) w) := by
  by_cases hs : n < W ∧ m < W
  · obtain ⟨wn, wm⟩ := hs
    have g0 := word_any v0 _ w h0
    have g1 := word_any v1 _ w h1
    rw [head_dig wn] at g0
    rw [head_dig wm] at g1
    have gl : Nat.gcd n m < W := by
      rcases Nat.eq_zero_or_pos n with h | h
      · subst h; rw [Nat.gcd_zero_left]; exact wm
      · exact Nat.lt_of_le_of_lt (Nat.gcd_le_left m h) wn
    have G0 := hid g0; have G1 := hid g1
    have hc := hid (commonWord_any n m w wn wm)
    have hO := hid (fun W' => ownWord_any (Nat.gcd n m) W' gl)
    have l0 : (dig W n).length ≤ 1 := sz_word wn
    have l1 : (dig W m).length ≤ 1 := sz_word wm
    obtain ⟨p0, c0, rfl, -⟩ := h0
    obtain ⟨p1, c1, rfl, -⟩ := h1
    generalize (dig W n).length = ln at *
    generalize (dig W m).length = lm at *
    clear g0 g1 hn hm gl wn wm
    go_enter Tryz.func81, Tryz.ntmps81
    go_wp2_with fail
    refine G0.out.mono ?_
    rintro e w' ⟨rfl, rfl⟩
    go_wp2_with fail
    refine G1.out.mono ?_
    rintro e w' ⟨rfl, rfl⟩
    go_wp2_with fail
    refine hc.out.mono ?_
    rintro e w1 ⟨rfl, k, rfl⟩
    go_wp2_with fail
    refine (hO.out _).mono ?_
    rintro e w2 ⟨v2, rfl, ho2, hb2⟩
    go_wp2_with fail
    go_ret
    exact ⟨_, rfl, ho2, (below_drewN (Below.refl _ _) k).trans hb2⟩
  · have s0 := split_any v0 (dig W n) w h0 (small_dig W2 n) hn
    rw [val_dig W2] at s0
    have s1 : ∀ W', Below w.heap.size w W' → Calls Tryz.prog 97 #[v1] W' (ROwn 157 .u32 (dig H m) W') := fun W' hb => by
      have := split_any v1 (dig W m) W' (h1.below hb) (small_dig W2 m) hm
      rwa [val_dig W2] at this
    have b0 : sz H n ≤ 2199023255552 := Nat.le_trans (sz_H_W n) (by omega)
    have b1 : sz H m ≤ 2199023255552 := Nat.le_trans (sz_H_W m) (by omega)
    have S0 := hid s0; have S1 := hid s1
    have hguard : ¬ ((dig W n).length ≤ 1 ∧ (dig W m).length ≤ 1) := fun h => hs ⟨
      Nat.lt_of_lt_of_le (lt_pow_sz W2 n) (Nat.le_trans (Nat.pow_le_pow_right (by decide) (show sz W n ≤ 1 from h.1)) (by simp)),
      Nat.lt_of_lt_of_le (lt_pow_sz W2 m) (Nat.le_trans (Nat.pow_le_pow_right (by decide) (show sz W m ≤ 1 from h.2)) (by simp))⟩
    obtain ⟨p0, c0, rfl, -⟩ := h0
    obtain ⟨p1, c1, rfl, -⟩ := h1
    have hg2 : decide (((dig W n).length : Int) ≤ 1) = false ∨ (decide (((dig W n).length : Int) ≤ 1) = true ∧ decide (((dig W m).length : Int) ≤ 1) = false) := by
      rcases Nat.lt_or_ge 1 (dig W n).length with h | h
      · exact Or.inl (decide_eq_false (by omega))
      · exact Or.inr ⟨decide_eq_true (by omega), decide_eq_false (by have : ¬ (dig W m).length ≤ 1 := fun h' => hguard ⟨h, h'⟩; omega)⟩
    generalize (dig W n).length = ln at *
    generalize (dig W m).length = lm at *
    clear s0 s1 hguard hs hn hm
    rcases hg2 with hg | ⟨hg, hg'⟩
    all_goals
      go_enter Tryz.func81, Tryz.ntmps81
      go_wp2_with fail
      refine S0.out.mono ?_
      rintro e w1 ⟨u, rfl, hu, hu1⟩
      go_wp2_with fail
      refine (S1.out _ hu1).mono ?_
      rintro e w2 ⟨u', rfl, hu', hu2⟩
      have b12 := Below.go hu2 hu1
      have au := hu.at.below hu2
      have au' := hu'.at
      clear hu1 hu2 hu hu' S0 S1
      go_wp2_with fail
      go_loopg [5, 6] m (fun gk x y wr => ∃ (p : Nat), At wr .u32 x (dig H p) ∧ At wr .u32 y (dig H gk) ∧ sz H p ≤ 2199023255552 ∧ sz H gk ≤ 2199023255552 ∧ Hid (Nat.gcd p gk = Nat.gcd n m) ∧ Below w.heap.size w wr)
      case atStart => exact ⟨n, au, au', b0, b1, rfl, b12⟩
      case round =>
        obtain ⟨p, hx, hy, hp, hq, hgcd, hbel⟩ := hrel
        by_cases h0 : gk = 0
        · have hres : Hid (p = Nat.gcd n m) := by have := hgcd.out; rw [h0, Nat.gcd_zero_right] at this; exact this
          have hl : (dig H gk).length = 0 := by rw [h0]; rfl
          have hj := hid (join_any _ p wr hx (by omega))
          obtain ⟨py, cy, rfl, -⟩ := hy
          rw [hl]
          clear hl h0 hgcd hq hx
          go_wp2_with fail
          refine hj.out.mono ?_
          rintro e w5 ⟨v5, rfl, ho5, hb5⟩
          go_wp2_with fail
          go_ret
          exact ⟨_, rfl, by rw [← hres.out]; exact ho5.at, Below.go hb5 hbel⟩
        · have hl : 0 < (dig H gk).length := Nat.pos_of_ne_zero fun e => h0 ((sz_eq_zero H2).1 e)
          have hd := hid (divideHalves_any _ _ p gk wr hx hy (by omega) hp hq)
          have hg' := hid ((gcd_step p gk).trans hgcd.out)
          have hlt : p % gk < gk := Nat.mod_lt _ (by omega)
          have hsz : sz H (p % gk) ≤ 2199023255552 := Nat.le_trans (sz_mono H2 (Nat.le_of_lt hlt)) hq
          have Hy := hid hy
          obtain ⟨py, cy, rfl, -⟩ := hy
          obtain ⟨ly, hly⟩ : ∃ k, k = (dig H gk).length := ⟨_, rfl⟩
          rw [← hly] at hl hd Hy ⊢
          clear hly h0 hgcd hx
          go_wp2_with fail
          refine hd.out.mono ?_
          rintro e w5 ⟨q5, r5, rfl, -, hr5, hb5⟩
          have hy5 := Hy.out.below hb5
          have b5 := Below.go hb5 hbel
          clear hd hb5 Hy
          go_wp2_with fail
          go_roundg (p % gk)
          case measure => exact hlt
          case rel => exact ⟨gk, hy5, hr5, hq, hsz, hg'.out, b5⟩

set_option maxRecDepth 100000 in
set_option maxHeartbeats 1600000 in
theorem Gcd_any (v0 v1 : Value) (a b : Int) (w : World) (h0 : RawAt w v0 a) (h1 : RawAt w v1 b) : Calls Tryz.prog 67 #[v0, v1] w (RInt (Nat.gcd a.natAbs b.natAbs : Nat) w) := by
  have z0 := h0.sz
  have z1 := h1.sz
  obtain ⟨n0, s0, l0, rfl, a0, b0, c0, rfl⟩ := h0
  obtain ⟨n1, s1, l1, rfl, a1, b1, c1, rfl⟩ := h1
  rw [sg_natAbs] at z0 z1 ⊢
  rw [sg_natAbs]
  have t0 : ∀ W : World, At W .u64 s0 l0 → Calls Tryz.prog 46 #[s0] W (fun e w' => e = .returned (cutTo s0 (strip l0).length) ∧ w' = W) := fun W h => trim_val s0 l0 W h
  have t1 : ∀ W : World, At W .u64 s1 l1 → Calls Tryz.prog 46 #[s1] W (fun e w' => e = .returned (cutTo s1 (strip l1).length) ∧ w' = W) := fun W h => trim_val s1 l1 W h
  have T0 := hid t0; have T1 := hid t1; clear t0 t1
  have d0 := hid (strip_dig W2 b0)
  have d1 := hid (strip_dig W2 b1)
  go_enter Tryz.func67, Tryz.ntmps67
  go_wp2_with fail
  generalize hW : World.alloc (World.alloc (World.alloc w _) _) _ = W3
  have bw : Below w.heap.size w W3 := by rw [← hW]; exact ((below1 _ _).alloc (by simp) _).alloc (by simp; omega) _
  have hp : Pair W3 (w.heap.size + 1 + 1) 35 := by rw [← hW]; exact Pair.new2 ..
  obtain ⟨-, c01, -, c11, -⟩ : Two W3 w.heap.size (.bool n0) s0 (.bool n1) s1 := by rw [← hW]; exact (Two.new w _ _ _ _ _).below (below1 _ _)
  have z3 : w.heap.size + 3 ≤ W3.heap.size := by rw [← hW]; simp
  have A0 : ∀ W', Below W3.heap.size W3 W' → At W' .u64 (cutTo s0 (strip l0).length) (dig W (val W l0)) := fun W' h' => by have := ((a0.below bw).below h').strip; rwa [d0.out] at this ⊢
  have A1 : ∀ W', Below W3.heap.size W3 W' → At W' .u64 (cutTo s1 (strip l1).length) (dig W (val W l1)) := fun W' h' => by have := ((a1.below bw).below h').strip; rwa [d1.out] at this ⊢
  have HA0 := hid A0; have HA1 := hid A1; have bw' := hid bw; have a0' := hid (a0.below bw); have a1' := hid (a1.below bw)
  clear hW bw A0 A1 a0 a1
  generalize cutTo s0 (strip l0).length = u0 at *
  generalize cutTo s1 (strip l1).length = u1 at *
  generalize val W l0 = x at *
  generalize val W l1 = y at *
  clear d0 d1 b0 b1 c0 c1
  have hsg : Hid (sg false (Nat.gcd x y) = ((Nat.gcd x y : Nat) : Int)) := by unfold Hid sg; simp
  go_region_held3 (fun w' => w'.cell? ⟨w.heap.size, 1, none⟩ = some s0 ∧ w'.cell? ⟨w.heap.size + 1, 1, none⟩ = some s1 ∧ Pair w' (w.heap.size + 1 + 1) 35)
    (first | (go_split_ands; (try dsimp only); (repeat' apply And.intro) <;> first | assumption | exact Pair.drew ‹_› | exact Pair.below ‹_› hb9 | exact Pair.below ‹_› hb8 | exact Pair.below ‹_› hb7 | exact Pair.below ‹_› hb6 | exact Pair.below ‹_› hb5 | exact Pair.below ‹_› hb4 | exact Pair.below ‹_› hb3 | exact Pair.below ‹_› hb2 | exact Pair.below ‹_› hb1 | exact (hb9.cell (by first | omega | (simp; omega) | (simp; done))).trans ‹_› | exact (hb8.cell (by first | omega | (simp; omega) | (simp; done))).trans ‹_› | exact (hb7.cell (by first | omega | (simp; omega) | (simp; done))).trans ‹_› | exact (hb6.cell (by first | omega | (simp; omega) | (simp; done))).trans ‹_› | exact (hb5.cell (by first | omega | (simp; omega) | (simp; done))).trans ‹_› | exact (hb4.cell (by first | omega | (simp; omega) | (simp; done))).trans ‹_› | exact (hb3.cell (by first | omega | (simp; omega) | (simp; done))).trans ‹_› | exact (hb2.cell (by first | omega | (simp; omega) | (simp; done))).trans ‹_› | exact (hb1.cell (by first | omega | (simp; omega) | (simp; done))).trans ‹_› | exact Pair.set1 (Pair.set0 ‹_› _) _ _ _ | exact (cell_stored _ (by first | (dsimp only; omega) | (simp; done) | (simp; omega)) _ _).trans ‹_› | exact Pair.drew (Pair.below ‹_› (below1 _ _)) | exact Pair.below ‹_› (below1 _ _) | exact Pair.far ‹_› (by omega) hb1 | exact Pair.new .. | exact Pair.new1 .. | exact Pair.new2 .. | (go_keep; done)) | (go_keep; done))
    (first
      | (go_at_call_of 46 (s0); refine (T0.out _ a0'.out.drew).mono ?_; rintro e w' ⟨rfl, rfl⟩)
      | (go_at_call_of 46 (s1); refine (T1.out _ a1'.out.drew).mono ?_; rintro e w' ⟨rfl, rfl⟩)
      | (go_at_call 81; refine (common_any u0 u1 x y _ (HA0.out _ (Below.drew (Below.refl _ _))) (HA1.out _ (Below.drew (Below.refl _ _))) z0 z1).mono ?_; rintro e w1 ⟨v1, rfl, ho1, hb1⟩; have hz1 : w.heap.size + 3 ≤ w1.heap.size := (by have := hb1.size; simp at this; omega))
      | (go_at_call 72; refine (told_any false _ _ _ ho1).mono ?_; rintro e w2 ⟨v2, rfl, hi2, hb2⟩; obtain ⟨p2, n2, c2, rfl, hi2⟩ := hi2.shape; have hpr := Pair.below (by go_split_ands; assumption) hb2; obtain ⟨_, _, q0, q1, q2, q3⟩ := hpr.cells))
  go_wp2
  exact bodyPost_ret (v := .agg #[.bool (decide (sg false (Nat.gcd x y) < 0)), .slice p2 n2 c2]) (by simp [results, Tryz.results67, go_sem, q0, q1]) rfl
    ⟨_, rfl, by rw [← hsg.out]; exact hi2.stored hpr _ _ _ _, Below.stored ((bw'.out.drew.trans (hb1.mono (B' := w.heap.size) (by simp; omega))).trans (hb2.mono (B' := w.heap.size) (by omega))) (by omega) _ _⟩
end Go.Proofs.YtnfohbpgnbfmeaaGreatDoor
/- A region that draws its order, with one operation (an append to a row that was there) that writes into blocks of S: each operation is shown once to give its own fact, which lasts. -/
namespace Go.Proofs.YtnfohbpgnbfmeaaGreatDoor
open Go.RowKit

/-- a fact of a slot's value that lasts while memory outside S stays -/
structure WFact (S : Nat → Prop) where
  P : Value → World → Prop
  st : ∀ v w w', P v w → Apart S w w' → P v w'
def wEq {S : Nat → Prop} (v0 : Value) : WFact S := ⟨fun v _ => v = v0, fun _ _ _ h _ => h⟩
def wAny {S : Nat → Prop} : WFact S := ⟨fun _ _ => True, fun _ _ _ h _ => h⟩
theorem wpAny_write {P : Program} {ops : Array Oper} {Q : Exit → Act → World → Prop} {a0 : Act} {w0 : World} (n s : Nat) (hsize : ops.size = n + s) (ds : List Tmp) {S : Nat → Prop} (f : Nat → WFact S) (a : Nat) (J : Value → World → Prop) (hJ : ∀ v w w', J v w → Below w.heap.size w w' → J v w')
    (hd : edgesDown .any ops = true) (hsw : storesWait .any ops n = true) (hdn : ds.Nodup) (hlen : ds.length = n) (hds : dstsAre ops n ds = true) (han : a < n)
    (hstep : ∀ i o, i < n → ops[i]? = some o → ∀ vs w, vs.length = n → Apart S w0 w → (i = a ∨ reach .any ops 8 a i = true → Below w0.heap.size w0 w) → (∀ e ∈ o.after, Region.binds .any e = true → (f e.on).P (vs.getD e.on undef) w) →
      ∀ K : Act → World → Prop, Shut (∀ v w', (f i).P v w' → (i ≠ a → Below w.heap.size w w') → (i = a → Apart S w w' ∧ J v w') → K ((putAll a0 ds vs).put o.dst v) w') →
        if Region.wanted o (yielded ops (putAll a0 ds vs).tmps) = true then Oper.wp P o (putAll a0 ds vs) w K Q else K ((putAll a0 ds vs).put o.dst undef) w)
    (hend : ∀ vs w, vs.length = n → Apart S w0 w → (∀ i, i < n → (f i).P (vs.getD i undef) w) → J (vs.getD a undef) w →
      wpAny P .any ops Q s ((List.replicate n true ++ List.replicate s false).toArray) (putAll a0 ds vs) w) :
    ∀ (c : Nat) (L : Array Bool) (vs : List Value) (w : World), (L.toList.take n).count false = c → L.size = n + s → (∀ j, n ≤ j → j < n + s → L.getD j true = false) → Closed .any ops L → vs.length = n → Apart S w0 w →
      (∀ i, i < n → L.getD i false = true → (f i).P (vs.getD i undef) w) → (L.getD a false = false → Below w0.heap.size w0 w) → (L.getD a false = true → J (vs.getD a undef) w) → wpAny P .any ops Q (c + s) L (putAll a0 ds vs) w := by
  intro c
  induction c with
  | zero =>
    intro L vs w hc hs hst hcl hvl hb hf hj0 hj1
    have hall : ∀ i, i < n → L.getD i false = true := fun i hi => by
      have hil : i < L.size := by omega
      cases hb : L[i] with
      | true => simp [Array.getD, hil, hb]
      | false =>
        exfalso
        have hmem : false ∈ L.toList.take n := by
          rw [List.mem_take_iff_getElem]
          exact ⟨i, by simp; omega, by simpa using hb⟩
        have := List.count_pos_iff.2 hmem
        omega
    have hL : L = (List.replicate n true ++ List.replicate s false).toArray := by
      apply Array.ext
      · simp [hs]
      · intro i hi hi2
        by_cases h : i < n
        · have := hall i h
          simp only [Array.getD, hi] at this
          simp [h]
          simpa using this
        · have := hst i (by omega) (by omega)
          simp only [Array.getD, hi] at this
          simp [List.getElem_append, h]
          simpa using this
    rw [Nat.zero_add, hL]
    exact hend vs w hvl hb (fun i hi => hf i hi (hall i hi)) (hj1 (hall a han))
  | succ c ih =>
    intro L vs w hc hs hst hcl hvl hb hf hj0 hj1
    have hnot : ¬ ∀ i, i < n → L.getD i false = true := fun hall => by
      have : (L.toList.take n).count false = 0 := by
        rw [List.count_eq_zero]
        intro hmem
        rw [List.mem_take_iff_getElem] at hmem
        obtain ⟨i, hi, hif⟩ := hmem
        have hi' : i < L.size := by simp at hi; omega
        have := hall i (by simp at hi; omega)
        have h2 : L.getD i false = L[i] := by simp [Array.getD, hi']
        rw [h2] at this
        rw [Array.getElem_toList] at hif
        rw [hif] at this
        cases this
      omega
    rw [show c + 1 + s = (c + s) + 1 by omega]
    refine ⟨fun hr => ?_, fun i hi => ?_⟩
    · exfalso
      apply hnot
      intro i hi
      have := all_listed hd (by rw [hs, hsize]) hr i (by omega)
      have hil : i < L.size := by omega
      simpa [Array.getD, hil] using this
    · obtain ⟨hun, o, ho, hall⟩ := mem_ready.1 hi
      have hio : i < ops.size := (Array.getElem?_eq_some_iff.1 ho).1
      have hil : i < L.size := by omega
      have hin : i < n := by
        rcases Nat.lt_or_ge i n with h | h
        · exact h
        · exfalso
          apply hnot
          intro j hj
          have h1 := List.all_eq_true.1 hsw i (by simpa using hio)
          simp only [Bool.or_eq_true, decide_eq_true_eq] at h1
          rcases h1 with h1 | h1
          · omega
          · exact reach_listed hcl 6 i o j ho hall (List.all_eq_true.1 h1 j (by simpa using hj))
      have hdst : o.dst = ds[i]? := by
        have h1 := List.all_eq_true.1 hds i (by simpa using hin)
        rw [ho] at h1
        simpa using h1
      have hdi : ds[i]? = some (ds[i]'(by omega)) := by simp
      have hia : i = a ∨ reach .any ops 8 a i = true → L.getD a false = false := fun h => by
        rcases h with rfl | h
        · simpa [Array.getD, hil] using hun
        · cases hla : L.getD a false with
          | false => rfl
          | true =>
            exfalso
            have hoa : ops[a]? = some (ops[a]'(by omega)) := by simp
            have := reach_listed hcl 8 a _ i hoa (fun e he hb => hcl a _ hoa hla e he hb) h
            have h2 : L.getD i false = L[i] := by simp [Array.getD, hil]
            rw [h2] at this
            have h3 : L.getD i true = L[i] := by simp [Array.getD, hil]
            rw [h3, this] at hun
            cases hun
      refine wpOp_step ho (fun K hK => hstep i o hin ho vs w hvl hb (fun h => hj0 (hia h)) (fun e he hbd => ?_) K (fun v w' hv hb' hp => ?_))
      · have hl := hall e he hbd
        have hlt : e.on < n := by
          rcases Nat.lt_or_ge e.on n with h | h
          · exact h
          · exfalso
            rcases Nat.lt_or_ge e.on (n + s) with h2 | h2
            · have := hst e.on h h2
              have hl2 : e.on < L.size := by omega
              simp only [Array.getD, hl2] at this hl
              simp at this hl
              rw [this] at hl; cases hl
            · have : ¬ e.on < L.size := by omega
              simp [Array.getD, this] at hl
        exact hf e.on hlt hl
      · apply hK
        rw [hdst, hdi, putAll_set hdn hdi (by omega)]
        have hset : ∀ j, i ≠ j → (L.setIfInBounds i true).getD j false = L.getD j false := fun j h => getD_set_ne false h
        have hap : Apart S w w' := by
          by_cases e : i = a
          · exact (hp e).1
          · exact Apart.of_below (hb' e)
        refine ih (L.setIfInBounds i true) (vs.set i v) w' ?_ (by simpa using hs) ?_ ?_ (by simpa using hvl) (hb.go hap) ?_ ?_ ?_
        · have hf' : (L.toList.take n)[i]'(by simp; omega) = false := by
            simp only [List.getElem_take]
            simpa [Array.getD, hil] using hun
          have := count_false_set (L.toList.take n) i (by simp; omega) hf'
          rw [Array.toList_setIfInBounds, ← List.take_set] at *
          omega
        · intro j hj hj2
          rw [getD_set_ne true (by omega)]
          exact hst j hj hj2
        · intro j o' hjo hjl e he hbd
          by_cases hji : i = j
          · subst hji
            rw [ho] at hjo
            cases hjo
            exact getD_set_true (hall e he hbd)
          · rw [hset j hji] at hjl
            exact getD_set_true (hcl j o' hjo hjl e he hbd)
        · intro j hj hjl
          by_cases hji : i = j
          · subst hji
            rw [getD_set_list_self (by omega)]
            exact hv
          · rw [hset j hji] at hjl
            rw [getD_set_list hji]
            exact (f j).st _ _ _ (hf j hj hjl) hap
        · intro hla
          by_cases hji : i = a
          · subst hji
            exfalso
            have h2 : i < (L.setIfInBounds i true).size := by simpa using hil
            simp [Array.getD, hil] at hla
          · rw [hset a hji] at hla
            have := hb' hji
            exact (hj0 hla).trans (this.mono (hj0 hla).size)
        · intro hla
          by_cases hji : i = a
          · subst hji
            rw [getD_set_list_self (by omega)]
            exact (hp rfl).2
          · rw [hset a hji] at hla
            rw [getD_set_list hji]
            exact hJ _ _ _ (hj1 hla) (hb' hji)

theorem wp_region_write {P : Program} {ops : Array Oper} {Q : Exit → Act → World → Prop} {id : Nat} {a0 : Act} {w0 : World} (n s : Nat) (ds : List Tmp) (vs0 : List Value) {S : Nat → Prop} (f : Nat → WFact S) (a : Nat) (J : Value → World → Prop) (hJ : ∀ v w w', J v w → Below w.heap.size w w' → J v w') (hm : P.follows .mixedOrders = true)
    (hsize : ops.size = n + s) (hd : edgesDown .any ops = true) (hsw : storesWait .any ops n = true) (hdn : ds.Nodup) (hlen : ds.length = n) (hds : dstsAre ops n ds = true) (hv0 : vs0.length = n) (han : a < n)
    (he : a0 = putAll a0 ds vs0)
    (hstep : ∀ i o, i < n → ops[i]? = some o → ∀ vs w, vs.length = n → Apart S w0 w → (i = a ∨ reach .any ops 8 a i = true → Below w0.heap.size w0 w) → (∀ e ∈ o.after, Region.binds .any e = true → (f e.on).P (vs.getD e.on undef) w) →
      ∀ K : Act → World → Prop, Shut (∀ v w', (f i).P v w' → (i ≠ a → Below w.heap.size w w') → (i = a → Apart S w w' ∧ J v w') → K ((putAll a0 ds vs).put o.dst v) w') →
        if Region.wanted o (yielded ops (putAll a0 ds vs).tmps) = true then Oper.wp P o (putAll a0 ds vs) w K Q else K ((putAll a0 ds vs).put o.dst undef) w)
    (hend : ∀ vs w, vs.length = n → Apart S w0 w → (∀ i, i < n → (f i).P (vs.getD i undef) w) → J (vs.getD a undef) w →
      wpAny P .any ops Q s ((List.replicate n true ++ List.replicate s false).toArray) (putAll a0 ds vs) w) : (Code.region id ops true).wp P Q a0 w0 := by
  refine wp_region_any hm ?_
  have := wpAny_write (a0 := a0) (w0 := w0) n s hsize ds f a J hJ hd hsw hdn hlen hds han hstep hend n (Array.replicate ops.size false) vs0 w0.drew
    (by rw [hsize]; simp [List.take_replicate, Nat.min_eq_left (Nat.le_add_right n s)]) (by simp [hsize]) (by intro j hj hj2; simp [Array.getD, hsize, hj2]) (by intro j o _ h; simp [Array.getD] at h) hv0 ((Apart.refl _ _).drew)
    (by intro i _ h; simp [Array.getD] at h) (fun _ => (Below.refl _ _).drew) (by intro h; simp [Array.getD] at h)
  rw [← he, ← hsize] at this
  exact this

end Go.Proofs.YtnfohbpgnbfmeaaGreatDoor
/- whole.Sub, Of. -/
namespace Go.Proofs.YtnfohbpgnbfmeaaGreatDoor
open Go.RowKit Big

set_option maxHeartbeats 1600000 in
theorem Sub_any (v0 v1 : Value) (a b : Int) (w : World) (h0 : RawAt w v0 a) (h1 : RawAt w v1 b) : Calls Tryz.prog 58 #[v0, v1] w (RInt (a - b) w) := by
  obtain ⟨n1, s1, l1, rfl, a1, b1, c1, hb⟩ := h1
  have hn : ∀ W, Below w.heap.size w W → RawAt W (.agg #[.bool (!n1), s1]) (-b) := fun W h => ⟨!n1, s1, l1, rfl, a1.below h, b1, c1, by rw [hb]; unfold sg; cases n1 <;> simp⟩
  have hs : a - b = a + -b := by omega
  rw [hs]
  have Hn := hid hn
  obtain ⟨p1', c1', rfl, -⟩ := a1
  clear hn hs hb b1 c1
  obtain ⟨n0, s0, l0, rfl, r0⟩ := id h0
  clear r0
  go_enter Tryz.func58, Tryz.ntmps58
  go_wp2_with fail
  refine (Add_any _ _ _ _ _ (h0.below (((below1 _ _).alloc (by simp) _).alloc (by simp; omega) _)) (Hn.out _ (((below1 _ _).alloc (by simp) _).alloc (by simp; omega) _))).mono ?_
  rintro e w1 ⟨v1, rfl, hi1, hb1⟩
  obtain ⟨p1, m1, c1, rfl, hi1⟩ := hi1.shape
  have hpr : Pair w1 (w.heap.size + 1 + 1) 35 := Pair.below (Pair.new2 ..) hb1
  obtain ⟨_, _, q0, q1, q2, q3⟩ := hpr.cells
  have bw : Below w.heap.size w w1 := (((below1 _ _).alloc (by simp) _).alloc (by simp; omega) _).trans (hb1.mono (B' := w.heap.size) (by simp; omega))
  have z1 : w.heap.size + 3 ≤ w1.heap.size := by have := hb1.size; simp at this; omega
  clear hb1
  go_wp2
  exact bodyPost_ret (v := .agg #[.bool (decide (a + -b < 0)), .slice p1 m1 c1]) (by simp [results, Tryz.results58, go_sem, q0, q1]) rfl
    ⟨_, rfl, hi1.stored hpr _ _ _ _, Below.stored bw (by omega) _ _⟩
theorem wrap_neg_neg (n : Nat) (h0 : 0 < n) (h : n < W) : IntKind.u64.wrap (-IntKind.u64.wrap (-(n : Int))) = (n : Int) := by
  unfold W at h
  simp only [IntKind.wrap, IntKind.bits, IntKind.signed]
  simp
  omega

set_option maxHeartbeats 800000 in
theorem Of_any (z : Int) (w : World) (h0 : -9223372036854775808 ≤ z) (h1 : z ≤ 9223372036854775807) : Calls Tryz.prog 57 #[.int .i64 z] w (RInt z w) := by
  by_cases hz : z < 0
  · obtain ⟨n, hn⟩ : ∃ n : Nat, z = -(n : Int) := ⟨z.natAbs, by omega⟩
    have Hn := hid hn
    have hnW : n < W := by unfold W; omega
    have Hz : Hid (sg true n = z) := by rw [hn]; rfl
    have hn0 : 0 < n := by omega
    clear hn
    subst_vars
    go_enter Tryz.func57, Tryz.ntmps57
    go_wp2_with fail
    rw [wrap_neg_neg n hn0 hnW]
    refine (ownWord_any n _ hnW).mono ?_
    rintro e w1 ⟨v1, rfl, ho1, hb1⟩
    go_wp2_with fail
    refine (told_any true v1 n _ ho1).mono ?_
    rintro e w2 ⟨v2, rfl, hi2, hb2⟩
    obtain ⟨p2, n2, c2, rfl, hi2⟩ := hi2.shape
    have hpr : Pair w2 w.heap.size 35 := Pair.below (Pair.below (Pair.new ..) hb1) hb2
    obtain ⟨_, _, q0, q1, q2, q3⟩ := hpr.cells
    have z1 : w.heap.size + 1 ≤ w1.heap.size := by have := hb1.size; simp at this; omega
    have bw : Below w.heap.size w w2 := ((below1 _ _).trans (hb1.mono (B' := w.heap.size) (by simp))).trans (hb2.mono (B' := w.heap.size) (by omega))
    have Hi := hid hi2
    clear hb1 hb2 hi2
    go_wp2
    exact bodyPost_ret (v := .agg #[.bool (decide (sg true n < 0)), .slice p2 n2 c2]) (by simp [results, Tryz.results57, go_sem, q0, q1]) rfl
      ⟨_, rfl, by rw [← Hz.out]; exact Hi.out.stored hpr _ _ _ _, Below.stored bw (by omega) _ _⟩
  · obtain ⟨n, hn⟩ : ∃ n : Nat, z = (n : Int) := ⟨z.natAbs, by omega⟩
    subst hn
    have hnW : n < W := by unfold W; omega
    go_enter Tryz.func57, Tryz.ntmps57
    go_wp2_with fail
    refine (ownWord_any n _ hnW).mono ?_
    rintro e w1 ⟨v1, rfl, ho1, hb1⟩
    go_wp2_with fail
    refine (told_any false v1 n _ ho1).mono ?_
    rintro e w2 ⟨v2, rfl, hi2, hb2⟩
    obtain ⟨p2, n2, c2, rfl, hi2⟩ := hi2.shape
    have hpr : Pair w2 w.heap.size 35 := Pair.below (Pair.below (Pair.new ..) hb1) hb2
    obtain ⟨_, _, q0, q1, q2, q3⟩ := hpr.cells
    have z1 : w.heap.size + 1 ≤ w1.heap.size := by have := hb1.size; simp at this; omega
    have bw : Below w.heap.size w w2 := ((below1 _ _).trans (hb1.mono (B' := w.heap.size) (by simp))).trans (hb2.mono (B' := w.heap.size) (by omega))
    have Hi := hid hi2
    clear hb1 hb2 hi2
    go_wp2
    exact bodyPost_ret (v := .agg #[.bool (decide (sg false n < 0)), .slice p2 n2 c2]) (by simp [results, Tryz.results57, go_sem, q0, q1]) rfl
      ⟨_, rfl, Hi.out.stored hpr _ _ _ _, Below.stored bw (by omega) _ _⟩
end Go.Proofs.YtnfohbpgnbfmeaaGreatDoor
/- whole.Div by 0. -/
namespace Go.Proofs.YtnfohbpgnbfmeaaGreatDoor
open Go.RowKit Big

end Go.Proofs.YtnfohbpgnbfmeaaGreatDoor
/- strings.Builder: copyCheck, WriteByte, WriteString, over a builder that a call has laid itself. -/
namespace Go.Proofs.YtnfohbpgnbfmeaaGreatDoor
open Go.RowKit Big Go.Lib

theorem sizeBuilder : (Tryz.prog.info? 129).map (·.size) = some 2 := by kernel_rfl
theorem liesBuilder : liesAt Tryz.prog Tryz.prog.depth 129 (2 / Tryz.prog.cellsOf 129) 0 129 1 = true := by kernel_rfl
theorem infoByte : (Tryz.prog.info? 5).map (fun i => (i.zero, i.size, i.bytes)) = some (some (.int .u8 0), 1, 1) := by kernel_rfl

def RBuilt (B b : Nat) (v : Value) (bs : List Value) (w : World) (e : Ending) (w' : World) : Prop := e = .returned v ∧ IsBuilder 129 5 B b bs w' ∧ Below B w w'

end Go.Proofs.YtnfohbpgnbfmeaaGreatDoor
/- strings.Builder: copyCheck, WriteByte, WriteString, over a builder that a call has laid itself; all blocks but its own and rows of bytes stay. Made by gen_atbuilder.py. -/
namespace Go.Proofs.YtnfohbpgnbfmeaaGreatDoor
open Go.RowKit Big Go.Lib

theorem keptB {w w' : World} {B : Nat} {size : Nat} {v : Value} {n : Nat} {xs : List Value} {bo : Option Nat} (h : w.ownsRow B 5 size v n xs) (hg : w.grownBy w' v.ownBlock) : OthersKept 5 bo w w' := by
  intro k o hk _ ho
  refine (hg.block k (Array.getElem?_eq_some_iff.1 hk).1 (fun e1 => ?_)).trans hk
  rcases h.2 with ⟨rfl, -⟩ | ⟨g, cap, cur, rfl, hb, hh, r⟩
  · simp [Value.ownBlock] at e1
  · obtain rfl : g = k := by simpa [Value.ownBlock] using e1.symm
    rw [hk] at hh
    injection hh with hh
    exact ho _ _ hh
set_option maxRecDepth 100000 in
set_option maxHeartbeats 1000000 in
theorem copyCheckK_any (B b : Nat) (bs : List Value) (w : World) (h : IsBuilder 129 5 B b bs w) :
    Calls Tryz.prog 107 #[.pointer (some ⟨b, 0, none⟩)] w fun e w' => e = .returned (.tuple #[]) ∧ BuilderAt 129 5 B b (.pointer (some ⟨b, 0, none⟩)) bs w' ∧ Below B w w' ∧ OthersKept 5 (some b) w w' := by
  obtain ⟨j, hj, hjs⟩ := Option.map_eq_some_iff.1 sizeBuilder
  rcases h with h | h
  · have c0 := h.cell0
    have hsh := h.shape
    have f0 := h.frozen0
    have H := hid h
    clear h
    go_enter Tryz.func107, Tryz.ntmps107
    go_wp2
    rw [run_to_unsafe w ⟨b, 0, none⟩ Tryz.underlying127 Tryz.underlying171 hj (by rw [hjs]; decide) hsh (Nat.zero_lt_succ 1)]
    simp only [Result.andThen]
    rw [Oper.upon_value]
    go_wp2
    rw [run_callFunc_extern Tryz.func130 (by kernel_rfl) (by kernel_rfl) (by kernel_rfl) (e := Extern.AbiNoEscape.same) (by kernel_rfl), run_noEscape]
    simp only [Result.andThen]
    rw [Oper.upon_value]
    go_wp2
    rw [run_from_unsafe w ⟨b, 0, none⟩ Tryz.underlying171 Tryz.underlying127 hj hsh liesBuilder]
    simp only [Result.andThen]
    rw [Oper.upon_value]
    go_wp2
    go_end0
    exact ⟨rfl, H.out.used _, (Below.refl B w).setCell (p := ⟨b, 0, none⟩) H.out.1 _, (OthersKept.refl _ _ w).setCell ⟨b, 0, none⟩ rfl _⟩
  · have c0 := h.cell0
    have H := hid h
    clear h
    go_enter Tryz.func107, Tryz.ntmps107
    go_wp2
    rw [run_neq_ptr_same w _ Tryz.underlying127 hj]
    go_wp2
    go_end0
    exact ⟨rfl, H.out, Below.refl B _, OthersKept.refl _ _ _⟩

def RBuiltK (B b : Nat) (v : Value) (bs : List Value) (w : World) (e : Ending) (w' : World) : Prop := e = .returned v ∧ IsBuilder 129 5 B b bs w' ∧ Below B w w' ∧ OthersKept 5 (some b) w w'

set_option maxRecDepth 100000 in
set_option maxHeartbeats 1000000 in
theorem WriteByteK_any (B b : Nat) (bs : List Value) (c : Int) (w : World) (h : IsBuilder 129 5 B b bs w) (hlen : bs.length + 1 ≤ 140737488355328) (hBw : B ≤ w.heap.size) :
    Calls Tryz.prog 91 #[.pointer (some ⟨b, 0, none⟩), .int .u8 c] w (RBuiltK B b .nilIface (bs ++ [.int .u8 c]) w) := by
  obtain ⟨i0, hi, hz0, hz1, hz2⟩ := info_parts infoByte
  have H := hid h
  clear h
  go_enter Tryz.func91, Tryz.ntmps91
  go_wp2_with fail
  refine (copyCheckK_any B b bs _ H.out).mono ?_
  rintro e w1 ⟨rfl, h1, hb1, hk1⟩
  have hlt := h1.lt
  obtain ⟨hB, v, hbk, hown, hne⟩ := h1
  have c0 : w1.cell? ⟨b, 0, none⟩ = some (.pointer (some ⟨b, 0, none⟩)) := by rw [cell_of_row w1 b 0 _ _ (0, 0) hbk]; rfl
  have c1 : w1.cell? ⟨b, 1, none⟩ = some v := by rw [cell_of_row w1 b 1 _ _ (0, 0) hbk]; rfl
  have z1 : B ≤ w1.heap.size := Nat.le_trans hBw hb1.size
  go_wp2_with (at_builtin; refine wpList_append_own _ rfl _ _ 115 rfl B 5 i0 (.int .u8 0) 1 1 Tryz.underlying115 hi hz0 hz1 hz2 rfl (by decide) _ _ _ rfl (hown.alloc _) ⟨w1.heap.size, 0, none⟩ 1 1 [.int .u8 c] rfl rfl ?c1 ?c2 ?c3 ?c4 ?c5 ?_)
  case c1 =>
    intro j u hj
    match j, hj with
    | 0, hj => simp at hj; subst hj; simp [Addr.add]
  case c2 => intro u hu; simp at hu; subst hu; rfl
  case c3 => unfold maxLen; omega
  case c4 => omega
  case c5 => simp; omega
  intro v' w2 hown' hgrow _
  have hb2 : w2.heap[b]? = some (.cells #[.pointer (some ⟨b, 0, none⟩), v] 129 (0, 0)) := by
    rw [hgrow.block b (by simp; omega) (fun e => hne e.symm), heap_alloc_old w1 _ hlt]
    exact hbk
  have d0 : w2.cell? ⟨b, 0, none⟩ = some (.pointer (some ⟨b, 0, none⟩)) := by rw [cell_of_row w2 b 0 _ _ (0, 0) hb2]; rfl
  have d1 : w2.cell? ⟨b, 1, none⟩ = some v := by rw [cell_of_row w2 b 1 _ _ (0, 0) hb2]; rfl
  have f1 : w2.frozen? ⟨b, 1, none⟩ = false := frozen_of_row w2 b 1 _ _ hb2
  obtain ⟨g, cap, rfl⟩ : ∃ g cap, v' = .slice (some ⟨g, 0, none⟩) (bs.length + 1) cap := by
    rcases hown'.2 with ⟨_, h0⟩ | ⟨g, cap, cur, hv, _⟩
    · omega
    · exact ⟨g, cap, hv⟩
  go_wp2
  go_ret
  refine ⟨rfl, Or.inr ?_, ?_, ?_⟩
  · exact BuilderAt.put (T := 129) (e := 5) hB hb2 (bs' := bs ++ [.int .u8 c]) (by simpa using hown') (by decide)
  · exact ((hb1.alloc z1 _).grown hgrow (by simp; omega) (fun k hk => (hown.lt k hk).1)).setCell (p := ⟨b, 1, none⟩) hB _
  · exact ((hk1.alloc _).trans (keptB (hown.alloc _) hgrow)).setCell ⟨b, 1, none⟩ rfl _

set_option maxRecDepth 100000 in
set_option maxHeartbeats 1000000 in
theorem WriteStringK_any (B b : Nat) (bs : List Value) (s : ByteArray) (w : World) (h : IsBuilder 129 5 B b bs w) (hlen : bs.length + s.size ≤ 140737488355328) (hBw : B ≤ w.heap.size) :
    Calls Tryz.prog 89 #[.pointer (some ⟨b, 0, none⟩), .string s] w (RBuiltK B b (.tuple #[.int .i64 s.size, .nilIface]) (bs ++ strCells s) w) := by
  obtain ⟨i0, hi, hz0, hz1, hz2⟩ := info_parts infoByte
  have H := hid h
  clear h
  go_enter Tryz.func89, Tryz.ntmps89
  go_wp2_with fail
  refine (copyCheckK_any B b bs _ H.out).mono ?_
  rintro e w1 ⟨rfl, h1, hb1, hk1⟩
  have hlt := h1.lt
  obtain ⟨hB, v, hbk, hown, hne⟩ := h1
  have c0 : w1.cell? ⟨b, 0, none⟩ = some (.pointer (some ⟨b, 0, none⟩)) := by rw [cell_of_row w1 b 0 _ _ (0, 0) hbk]; rfl
  have c1 : w1.cell? ⟨b, 1, none⟩ = some v := by rw [cell_of_row w1 b 1 _ _ (0, 0) hbk]; rfl
  have z1 : B ≤ w1.heap.size := Nat.le_trans hBw hb1.size
  go_wp2_with (at_builtin; refine wpList_append_own_string _ rfl _ _ 115 9 rfl B 5 i0 Tryz.underlying115 Tryz.underlying9 hi hz0 hz1 hz2 _ _ _ rfl hown s rfl ?c3 ?c4 ?c5 ?_)
  case c3 => unfold maxLen; omega
  case c4 => omega
  case c5 => omega
  intro v' w2 hown' hgrow _
  have hb2 : w2.heap[b]? = some (.cells #[.pointer (some ⟨b, 0, none⟩), v] 129 (0, 0)) := by
    rw [hgrow.block b hlt (fun e => hne e.symm)]
    exact hbk
  have d0 : w2.cell? ⟨b, 0, none⟩ = some (.pointer (some ⟨b, 0, none⟩)) := by rw [cell_of_row w2 b 0 _ _ (0, 0) hb2]; rfl
  have d1 : w2.cell? ⟨b, 1, none⟩ = some v := by rw [cell_of_row w2 b 1 _ _ (0, 0) hb2]; rfl
  have f1 : w2.frozen? ⟨b, 1, none⟩ = false := frozen_of_row w2 b 1 _ _ hb2
  obtain ⟨ao, n', cap, rfl⟩ : ∃ ao n' cap, v' = .slice ao n' cap := by
    rcases hown'.2 with ⟨hv, h0⟩ | ⟨g, cap, cur, hv, _⟩
    · exact ⟨none, 0, 0, hv⟩
    · exact ⟨_, _, cap, hv⟩
  have hs : (s.size : Int) ≤ 140737488355328 := by omega
  go_wp2
  go_ret2
  refine ⟨rfl, Or.inr ?_, ?_, ?_⟩
  · exact BuilderAt.put (T := 129) (e := 5) hB hb2 (bs' := bs ++ strCells s) (by simpa [strCells] using hown') (by decide)
  · exact (hb1.grown hgrow (by omega) (fun k hk => (hown.lt k hk).1)).setCell (p := ⟨b, 1, none⟩) hB _
  · exact (hk1.trans (keptB hown hgrow)).setCell ⟨b, 1, none⟩ rfl _
end Go.Proofs.YtnfohbpgnbfmeaaGreatDoor
/- A region that draws its order, one operation of which may come behind a store (two results, stored into two variables). -/
namespace Go.Proofs.YtnfohbpgnbfmeaaGreatDoor
open Go.RowKit

def storesWaitBut (md : Region.Mode) (ops : Array Oper) (n late : Nat) : Bool := (List.range ops.size).all fun i => decide (i < n) || (List.range n).all fun j => j == late || reach md ops 6 i j
end Go.Proofs.YtnfohbpgnbfmeaaGreatDoor
/- A number that comes in as data: a bool and a slice of words; how it reads. -/
namespace Go.Proofs.YtnfohbpgnbfmeaaGreatDoor
open Go.ChangeShapes Go.WideShapes Go.ChangeAt Go.RowKit Go.Deep Go.Joins Big

theorem cellsU64 : Tryz.prog.cellsOf 84 = 1 := by kernel_rfl

section
variable {H : Type} {enc : TypeId × Value → H} {w : World} {base : Nat} {spare : Nat → Bool} {held : Bool}
theorem wf_u64 {n : Int} (h : (Lit.int .u64 n).wf = true) : 0 ≤ n ∧ n < (W : Int) := by
  have h' : (decide (IntKind.u64.min ≤ n) && decide (n ≤ IntKind.u64.max)) = true := h
  have e1 : IntKind.u64.min = 0 := by decide
  have e2 : IntKind.u64.max = 18446744073709551615 := by decide
  rw [e1, e2] at h'
  simp only [Bool.and_eq_true, decide_eq_true_eq] at h'
  unfold W
  omega
/-- a slice of words that comes in -/
theorem open_nat {fuel : Nat} {v : Value} {y : DataW H × List MemPlace} (h : DataW.trod enc Tryz.prog w base spare held fuel 33 [v] = some y) : ∃ l, At w .u64 v l ∧ Small W l := by
  rcases open_ints Tryz.underlying33 Tryz.underlying84 cellsU64 h with ⟨hv, -⟩ | ⟨a, len, cap, zs, hv, hb, hl, hm, hz, -, hc, hwf⟩
  · obtain rfl : v = .slice none 0 0 := by simpa using hv
    exact ⟨[], At.nil w .u64, fun n hn => by cases hn⟩
  · obtain rfl : v = .slice (some a) len cap := by simpa using hv
    have hlz : len ≤ zs.length := by rw [hz]; split <;> omega
    refine ⟨(zs.take len).map Int.toNat, ?_, ?_⟩
    · have e : ((zs.take len).map Int.toNat).length = len := by simp [Nat.min_eq_left hlz]
      refine ⟨some a, cap, by rw [e], by rw [e]; exact hl, hm, nofun, fun h0 => ?_⟩
      rw [e] at h0
      have hs := hc 0 (by omega)
      obtain ⟨b, off, spot⟩ := a
      cases spot with
      | some x =>
        exfalso
        revert hs
        unfold World.cell? Addr.add
        split <;> simp
      | none =>
        refine ⟨b, off, rfl, ?_, fun i hi => ?_⟩
        · exact World.block_lt_of_cell? w _ hs
        · rw [e] at hi
          have hci := hc i (by omega)
          have hw := wf_u64 (hwf _ (List.getElem_mem (n := i) (l := zs) (by omega)))
          rw [add_plain] at hci
          rw [hci]
          have hg : zs.getD i 0 = zs[i]'(by omega) := by simp [List.getD, show i < zs.length by omega]
          rw [hg]
          simp only [List.getElem_map, List.getElem_take]
          congr 2
          omega
    · intro n hn
      obtain ⟨x, hx, rfl⟩ := List.mem_map.1 hn
      have hw := wf_u64 (hwf x (List.mem_of_mem_take hx))
      omega
end
end Go.Proofs.YtnfohbpgnbfmeaaGreatDoor
/- Rows of structs and numbers that come in as data: how they read. -/
namespace Go.Proofs.YtnfohbpgnbfmeaaGreatDoor
open Go.ChangeShapes Go.WideShapes Go.ChangeAt Go.RowKit Go.Deep Go.Joins Big

theorem laidOutP : laidOutB Tryz.prog = true := by kernel_rfl
theorem ownP : ownKnob Tryz.prog.godebug = none := by kernel_rfl
theorem fieldsIntP : ∃ f0 f1 : Field, Tryz.prog.underlying 35 = some (.struct #[f0, f1]) ∧ f0.type = 4 ∧ f1.type = 33 ∧ f0.offset = 0 ∧ f1.offset = 1 := ⟨_, _, Tryz.underlying35, rfl, rfl, rfl, rfl⟩
theorem cellsIntP : Tryz.prog.cellsOf 35 = 2 := by kernel_rfl
theorem cellsNatP : Tryz.prog.cellsOf 33 = 1 := by kernel_rfl
theorem cellsBoolP : Tryz.prog.cellsOf 4 = 1 := by kernel_rfl
theorem cellsIP : Tryz.prog.cellsOf 3 = 1 := by kernel_rfl
def dataOf {H : Type} : DataW H → List (DataW H)
  | .slice e _ => e
  | _ => []
section
variable {H : Type} {enc : TypeId × Value → H} {w : World} {base : Nat} {spare : Nat → Bool} {held : Bool}
theorem spotless {b off : Nat} {sp : Option _} {v : Value} (h : w.cell? ((⟨b, off, sp⟩ : Addr)) = some v) : sp = none := by
  cases sp with
  | none => rfl
  | some x =>
    exfalso
    revert h
    unfold World.cell?
    split <;> simp
theorem cells_each {a : Addr} {n : Nat} {cs : List Value} (h : w.cells? base a n = some cs) : cs.length = n ∧ ∀ j u, cs[j]? = some u → w.cell? (a.add j) = some u := by
  unfold World.cells? at h
  split at h
  · have hl := mapM_some_length h
    simp at hl
    refine ⟨hl, fun j u hj => ?_⟩
    have hjl : j < n := by
      have := (List.getElem?_eq_some_iff.1 hj).1
      omega
    have := mapM_some_get h j j (by simp [hjl])
    rw [this, hj]
  · cases h
/-- a row of structs that comes in -/
theorem open_rows {α : Type} {t e : TypeId} (size : Nat) (ht : Tryz.prog.underlying t = some (.slice e)) (hsz : Tryz.prog.cellsOf e = size) (hpos : 0 < size) {Q : List Value → α → DataW H → Prop}
    (each : ∀ m cs y, DataW.trod enc Tryz.prog w base spare held m e cs = some y → ∃ x : α, Q cs x y.1) {fuel : Nat} {cs : List Value} {y : DataW H × List MemPlace} (h : DataW.trod enc Tryz.prog w base spare held fuel t cs = some y) :
    ∃ (p : Option Addr) (cap : Nat) (l : List α), cs = [.slice p l.length cap] ∧ l.length ≤ cap ∧ cap ≤ maxLen ∧ (p = none → cap = 0) ∧
      (0 < l.length → ∃ b off, p = some ⟨b, off, none⟩ ∧ b < w.heap.size ∧ ∀ i (h : i < l.length), ∃ c d, c.length = size ∧ (∀ j u, c[j]? = some u → w.cell? ⟨b, off + i * size + j, none⟩ = some u) ∧ Q c l[i] d ∧ d ∈ dataOf y.1) := by
  rcases DataW.trod_slice ht h with ⟨rfl, -⟩ | ⟨a, len, cap, elems, rest, m, rfl, rfl, rfl, hb, hl, hm, hel, hget, -, -⟩
  · exact ⟨none, 0, [], rfl, by simp, by simp [maxLen], fun _ => rfl, fun h => absurd h (by simp)⟩
  · rw [hsz] at hget
    have hone : ∀ i : Fin len, ∃ x : α, ∃ c d, c.length = size ∧ (∀ j u, c[j]? = some u → w.cell? ((a.add (i.1 * size)).add j) = some u) ∧ Q c x d ∧ d ∈ elems.map (·.1) := fun i => by
      have hg := hget i.1 i.2
      have hil : i.1 < elems.length := by omega
      rw [List.getElem?_eq_getElem hil] at hg
      obtain ⟨ci, h1, h2⟩ := Option.bind_eq_some_iff.1 hg
      obtain ⟨x, hx⟩ := each m ci _ h2
      obtain ⟨k1, k2⟩ := cells_each h1
      exact ⟨x, ci, _, k1, k2, hx, List.mem_map.2 ⟨_, List.getElem_mem hil, rfl⟩⟩
    obtain ⟨f, hf⟩ := Classical.axiomOfChoice hone
    have hll : (List.ofFn f).length = len := by simp
    refine ⟨some a, cap, List.ofFn f, by rw [hll], by rw [hll]; exact hl, hm, fun e => by (cases e), fun h0 => ?_⟩
    rw [hll] at h0
    obtain ⟨b, off, sp⟩ := a
    have hsp : sp = none := by
      obtain ⟨c, d, k1, k2, -⟩ := hf ⟨0, h0⟩
      have := k2 0 (c[0]'(by omega)) (by simp)
      simp only [Nat.zero_mul, Addr.add] at this
      exact spotless this
    subst hsp
    have hbl : b < w.heap.size := by
      obtain ⟨c, d, k1, k2, -⟩ := hf ⟨0, h0⟩
      have := k2 0 (c[0]'(by omega)) (by simp)
      exact World.block_lt_of_cell? w _ (by simpa only [add_plain] using this)
    refine ⟨b, off, rfl, hbl, fun i hi => ?_⟩
    rw [hll] at hi
    obtain ⟨c, d, k1, k2, k3, k4⟩ := hf ⟨i, hi⟩
    exact ⟨c, d, k1, fun j u hj => by have := k2 j u hj; simpa only [add_plain] using this, by rw [List.getElem_ofFn]; exact k3, k4⟩
theorem open_ls {α : Type} {t e : TypeId} (size : Nat) (ht : Tryz.prog.underlying t = some (.slice e)) (hsz : Tryz.prog.cellsOf e = size) (hpos : 0 < size) {Q : World → List Value → α → Prop}
    (each : ∀ m cs y, DataW.trod enc Tryz.prog w base spare held m e cs = some y → ∃ x : α, Q w cs x) {fuel : Nat} {cs : List Value} {y : DataW H × List MemPlace} (h : DataW.trod enc Tryz.prog w base spare held fuel t cs = some y) :
    ∃ v l, cs = [v] ∧ LsIn size Q w v l := by
  obtain ⟨p, cap, l, hcs, h1, h2, h3, h4⟩ := open_rows (α := α) (Q := fun cs x _ => Q w cs x) size ht hsz hpos each h
  refine ⟨_, l, hcs, p, cap, rfl, h1, h2, h3, fun h0 => ?_⟩
  obtain ⟨b, off, e, hb, hc⟩ := h4 h0
  refine ⟨b, off, e, hb, fun i hi => ?_⟩
  obtain ⟨c, d, -, k, hq, -⟩ := hc i hi
  exact ⟨c, k, hq⟩
set_option maxRecDepth 100000 in
theorem open_nx {fuel : Nat} {cs : List Value} {y : DataW H × List MemPlace} (h : DataW.trod enc Tryz.prog w base spare held fuel 35 cs = some y) : ∃ x : Nx, NxQ w cs x := by
  obtain ⟨i0, i1, hsi, ei0, ei1, oi0, oi1⟩ := fieldsIntP
  obtain ⟨zs, m, rfl, -, hl, hzl, hzf⟩ := DataW.trod_struct hsi h
  rw [cellsIntP] at hl
  match cs, hl, zs, hzl with
  | [c0, c1], _, [z0, z1], _ =>
    have k0 := hzf 0 i0 rfl
    have k1 := hzf 1 i1 rfl
    rw [ei0, oi0, cellsBoolP] at k0
    rw [ei1, oi1, cellsNatP] at k1
    obtain ⟨b, gb, -⟩ := DataW.trod_bool Tryz.underlying4 (show DataW.trod enc Tryz.prog w base spare held m 4 [c0] = some z0 from k0)
    obtain ⟨ws, hw, hsm⟩ := open_nat (show DataW.trod enc Tryz.prog w base spare held m 33 [c1] = some z1 from k1)
    injection gb with gb _
    subst gb
    obtain ⟨pm, cm, rfl, r⟩ := hw
    exact ⟨⟨b, ws⟩, pm, cm, rfl, ⟨pm, cm, rfl, r⟩, hsm⟩
theorem open_nxs {fuel : Nat} {cs : List Value} {y : DataW H × List MemPlace} (h : DataW.trod enc Tryz.prog w base spare held fuel 50 cs = some y) : ∃ v l, cs = [v] ∧ NxsIn w v l :=
  open_ls 2 Tryz.underlying50 cellsIntP (by decide) (fun _ _ _ h => open_nx h) h
end
end Go.Proofs.YtnfohbpgnbfmeaaGreatDoor
/- elenchusref01.times: products of digits. -/
namespace Go.Proofs.YtnfohbpgnbfmeaaGreatDoor
open Go.RowKit Big

theorem rtimes_step {O : List Nat} {k x y c P Va Vb DI DJ : Nat} (hk : k < O.length) (hP : P = c + O[k] + x * y) (hDk : D ^ k = DI * DJ)
    (hv : val D O + c * D ^ k = Va + DI * (x * Vb)) : val D (O.set k (P % 65536)) + P / 65536 * D ^ (k + 1) = Va + DI * (x * (Vb + DJ * y)) := by
  have h1 := val_set D O k (P % 65536) hk
  have e2 : P % 65536 + D * (P / 65536) = c + O[k] + x * y := by rw [← hP]; unfold D; omega
  rw [Nat.pow_succ]
  generalize val D (O.set k (P % 65536)) = V' at *
  generalize O[k] = o at *
  generalize P % 65536 = r at *
  generalize P / 65536 = q at *
  have e3 : D ^ k * (r + D * q) = D ^ k * (c + o + x * y) := by rw [e2]
  rw [hDk] at e3 h1 hv ⊢
  have g1 : q * (DI * DJ * D) = DI * DJ * (D * q) := by rw [Nat.mul_left_comm, Nat.mul_comm q D]
  have g2 : DI * (x * (Vb + DJ * y)) = DI * (x * Vb) + DI * DJ * (x * y) := by rw [Nat.mul_add, Nat.mul_add, Nat.mul_assoc DI DJ, Nat.mul_left_comm x DJ y]
  have g3 : c * (DI * DJ) = DI * DJ * c := Nat.mul_comm ..
  simp only [Nat.mul_add] at e3
  rw [g1, g2]
  rw [g3] at hv
  omega
theorem dsum_lt {x y o c : Nat} (hx : x < 65536) (hy : y < 65536) (ho : o < 65536) (hc : c < 65536) : x * y ≤ 4294836225 ∧ c + o + x * y ≤ 4294967295 ∧ (c + o + x * y) / 65536 < 65536 := by
  have h : x * y ≤ 65535 * 65535 := Nat.mul_le_mul (by omega) (by omega)
  omega

set_option maxRecDepth 100000 in
set_option maxHeartbeats 3200000 in
theorem rtimes_any (v0 v1 : Value) (l0 l1 : List Nat) (w : World) (h0 : At w .i64 v0 l0) (h1 : At w .i64 v1 l1) (s0 : Small D l0) (s1 : Small D l1)
    (hl0 : l0.length ≤ 4398046511104) (hl1 : l1.length ≤ 4398046511104) : Calls Tryz.prog 65 #[v0, v1] w (RAt .i64 (dig D (val D l0 * val D l1)) w) := by
  have g1 : ∀ (k : Nat) W, Below w.heap.size w W → Calls Tryz.prog 79 #[v1, .int .i64 (k : Nat)] W fun e w' => e = .returned (.int .i64 (l1[k]?.getD 0 : Nat)) ∧ w' = W := fun k W hb => at_any v1 l1 k W (h1.below hb)
  have G1 := hid g1
  clear g1
  obtain ⟨p0, c0, rfl, a1, a2, a3, a4⟩ := h0
  obtain ⟨p1, c1, rfl, b1, b2, b3, -⟩ := h1
  unfold maxLen at a2 b2
  go_enter Tryz.func65, Tryz.ntmps65
  go_wp2_with (first
    | (at_make; refine wpList_full_at rfl _ _ 99 rfl elemInts w.heap.size _ _ _ _ (l0.length + l1.length + 1) rfl rfl (by first | rfl | omega | (simp; done)) (by first | rfl | omega | (simp; done)) (by omega) (by simp [maxLen]; omega) (Nat.le_refl _) ?_; intro vo w1 ho hb1 hs1 hvo; subst hvo))
  go_loopw [18] (fun i wr => ∃ (k : Nat) (O : List Nat), k ≤ l0.length ∧ i = .int .i64 (k : Nat) ∧ Own wr w.heap.size 3 .i64 (.slice (some ⟨w.heap.size, 0, none⟩) (l0.length + l1.length + 1) (l0.length + l1.length + 1)) O ∧ Hid (O.length = l0.length + l1.length + 1) ∧ Small D O ∧
      Hid (∀ j, k + l1.length ≤ j → O[j]?.getD 0 = 0) ∧ Hid (val D O = val D (l0.take k) * val D l1) ∧ Below w.heap.size w wr ∧ w.heap.size ≤ wr.heap.size) (fun i _ => l0.length - (intOf i).toNat)
  case atStart => exact ⟨0, List.replicate (l0.length + l1.length + 1) 0, Nat.zero_le _, rfl, ho, by simp [Hid], small_zeros (by decide) _, by unfold Hid; intro j _; simp [List.getElem?_replicate]; split <;> rfl, by unfold Hid; simp [val_zeros, val], hb1, hs1⟩
  case round =>
    obtain ⟨k, O, hk, rfl, hown, hO, hsO, hz, hv, hbel, hsz⟩ := hrel
    by_cases hkl : k < l0.length
    · obtain ⟨b, off, rfl, hbb, hcell⟩ := a4 (by omega)
      have x0 := small_get s0 k hkl
      obtain ⟨x, hx⟩ : ∃ x, x = l0[k] := ⟨_, rfl⟩
      have hcx := hcell k hkl
      rw [← hx] at x0 hcx
      have Hx := hid hx; have Hcx := hid hcx; clear hx hcell a4 hcx
      unfold D at x0
      go_wp2_with fail
      go_loopw [7, 8] (fun c j wq => ∃ (i c' : Nat) (Q : List Nat), (i ≤ l1.length ∨ (i = l1.length + 1 ∧ c' = 0)) ∧ j = .int .i64 (i : Nat) ∧ c = .int .i64 (c' : Nat) ∧ c' < 65536 ∧ Own wq w.heap.size 3 .i64 (.slice (some ⟨w.heap.size, 0, none⟩) (l0.length + l1.length + 1) (l0.length + l1.length + 1)) Q ∧ Hid (Q.length = l0.length + l1.length + 1) ∧ Small D Q ∧
        Hid (∀ j, k + 1 + l1.length ≤ j → Q[j]?.getD 0 = 0) ∧ Hid (i ≤ l1.length → Q[k + l1.length]?.getD 0 = 0) ∧ Hid (val D Q + c' * D ^ (k + i) = val D (l0.take k) * val D l1 + D ^ k * (x * val D (l1.take i))) ∧ Below w.heap.size w wq ∧ w.heap.size ≤ wq.heap.size) (fun _ j _ => l1.length + 2 - (intOf j).toNat)
      case atStart => exact ⟨0, 0, O, Or.inl (Nat.zero_le _), rfl, rfl, by omega, hown, hO, hsO, by intro j hj; exact hz.out j (by omega), by intro _; exact hz.out _ (Nat.le_refl _), by have := hv.out; unfold Hid; simp [val, this], hbel, hsz⟩
      case round =>
        obtain ⟨i, c', Q, hi, rfl, rfl, hc', hown', hQ, hsQ, hzQ, hzK, hvQ, hbel', hsz'⟩ := hrel
        by_cases hgo : i < l1.length ∨ 0 < c'
        · have hil : i ≤ l1.length := by omega
          have e0 : wr.cell? ⟨b, off + k, none⟩ = some (.int .i64 (x : Nat)) := (hbel'.cell (p := ⟨b, off + k, none⟩) hbb).trans Hcx.out
          obtain ⟨y, hy⟩ : ∃ y, y = l1[i]?.getD 0 := ⟨_, rfl⟩
          have y0 : y < 65536 := by rw [hy]; exact small_getD s1 (by decide) i
          have t1 := fun n => G1.out i (wr.drewN n) (below_drewN hbel' n)
          rw [← hy] at t1
          have T1 := hid t1; have Hy := hid hy; clear t1 hy
          have hkq : k + i < Q.length := by rw [hQ.out]; omega
          obtain ⟨cc0, f0⟩ := hown'.cell (k + i) hkq
          have o0 := small_get hsQ (k + i) hkq
          obtain ⟨o, ho'⟩ : ∃ o, o = Q[k + i] := ⟨_, rfl⟩
          rw [← ho'] at cc0 o0
          have Ho := hid ho'; clear ho'
          unfold D at o0
          obtain ⟨m1, m2, m3⟩ := dsum_lt x0 y0 o0 hc'
          obtain ⟨P, hP⟩ : ∃ P, P = c' + o + x * y := ⟨_, rfl⟩
          rw [← hP] at m2 m3
          have q1 : (x : Int) * (y : Int) ≤ 4294836225 := by
            have : ((x * y : Nat) : Int) ≤ 4294836225 := by omega
            rwa [Int.natCast_mul] at this
          have q2 : 0 ≤ (x : Int) * (y : Int) := by rw [← Int.natCast_mul]; omega
          have q3 : (c' : Int) + (o : Int) + (x : Int) * (y : Int) = (P : Int) := by rw [hP]; simp
          have HP := hid hP; have Q3 := hid q3
          clear hP q3
          have hset := hown'.set (k + i) (P % 65536)
          have hv' : val D (Q.set (k + i) (P % 65536)) + P / 65536 * D ^ (k + (i + 1)) = val D (l0.take k) * val D l1 + D ^ k * (x * val D (l1.take (i + 1))) := by
            have := rtimes_step (DI := D ^ k) (DJ := D ^ i) (x := x) (y := y) hkq (show P = c' + Q[k + i] + x * y by rw [← Ho.out]; exact HP.out) (Nat.pow_add ..) hvQ.out
            rw [val_take_getD D l1 i, ← Hy.out]
            exact this
          have hz' : ∀ j, k + 1 + l1.length ≤ j → (Q.set (k + i) (P % 65536))[j]?.getD 0 = 0 := fun j hj => by
            rw [List.getElem?_set_ne (by omega)]; exact hzQ.out j hj
          have hzk' : i + 1 ≤ l1.length → (Q.set (k + i) (P % 65536))[k + l1.length]?.getD 0 = 0 := fun h => by
            rw [List.getElem?_set_ne (by omega)]; exact hzK.out (by omega)
          have hn : i + 1 ≤ l1.length ∨ (i + 1 = l1.length + 1 ∧ P / 65536 = 0) := by
            by_cases h : i < l1.length
            · exact Or.inl (by omega)
            · right
              have e : i = l1.length := by omega
              refine ⟨by omega, ?_⟩
              have y00 : y = 0 := by rw [Hy.out, List.getElem?_eq_none (by omega)]; rfl
              have o00 : o = 0 := by
                have := hzK.out hil
                rw [Ho.out]
                rw [← e] at this
                simpa [hkq] using this
              rw [HP.out, y00, o00]; omega
          have Hv' := hid hv'; have Hz' := hid hz'; have Hzk' := hid hzk'; have Hn := hid hn
          clear hv' hz' hzk' hn hi
          rcases (by omega : i < l1.length ∨ (¬ i < l1.length ∧ 0 < c')) with h | ⟨h, h'⟩
          all_goals
            go_wp2_with fail
            go_quiet ((go_at_call 79; exact Calls.quiet_of_same (T1.out _)))
            go_wp2_with fail
            have r1 : ((c' : Int) + (o : Int) + (x : Int) * (y : Int)) / 65536 = ((P / 65536 : Nat) : Int) := by rw [Q3.out]; omega
            have r2 : ((c' : Int) + (o : Int) + (x : Int) * (y : Int)) % 65536 = ((P % 65536 : Nat) : Int) := by rw [Q3.out]; omega
            rw [r1, r2]
            have hset := (hown'.kept (below_drewN (Below.refl _ _) nq)).set (k + i) (P % 65536)
            go_roundw
            case rel => exact ⟨i + 1, P / 65536, Q.set (k + i) (P % 65536), Hn.out, by go_num, rfl, m3, hset.1, by unfold Hid; rw [List.length_set]; exact hQ.out, small_set hsQ _ (Nat.mod_lt _ (by decide)), Hz'.out, Hzk'.out, Hv'.out,
              (below_drewN hbel' nq).setCell (p := ⟨w.heap.size, k + i, none⟩) (Nat.le_refl _) _, by simpa [World.setCell] using hsz'⟩
            case measure => (simp [intOf] <;> omega)
        · have hc0 : c' = 0 := by omega
          subst hc0
          have h : ¬ i < l1.length := by omega
          have hv' : Hid (val D Q = val D (l0.take (k + 1)) * val D l1) := by
            have := hvQ.out
            rw [Nat.zero_mul, Nat.add_zero, val_take_ge D l1 i (by omega)] at this
            unfold Hid
            rw [this, val_take_succ D l0 k hkl, ← Hx.out, Nat.add_mul, Nat.mul_assoc]
          clear hgo hi hvQ
          go_wp2_with fail
          go_roundw
          case rel => exact ⟨k + 1, Q, by omega, by go_num, hown', hQ, hsQ, hzQ.out, hv'.out, hbel', hsz'⟩
          case measure => (simp [intOf] <;> omega)
    · obtain rfl : k = l0.length := by omega
      have hv' : Hid (strip O = dig D (val D l0 * val D l1)) := by
        have := hv.out
        rw [List.take_length] at this
        unfold Hid
        rw [← this, strip_dig D2 hsO]
      clear a4
      go_wp2_with (go_at_call 78; refine (rtrim_any _ O _ hown.at).mono ?_; rintro e w' ⟨v', rfl, hv'', rfl⟩)
      go_ret
      exact ⟨_, rfl, by rw [← hv'.out]; exact hv'', hbel⟩
end Go.Proofs.YtnfohbpgnbfmeaaGreatDoor
