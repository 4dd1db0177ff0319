/- Texts put together: TimesWalk, DivSmall, Times, VlOps3, VlOps4, VlVal, VlEval, VlEval2, VlHolds, VlHolds2, VlSteps, VlPure, VlRSmall, VlRTell, RefTimes, RefMul, VlOne0, VlOne_true, VlOne_false, VlOne_num, VlOne_not, VlOne_ite, VlOne_eq, VlOne_le, VlOne_iff, VlOne_mul. -/
import Derived.Test.YtckkpolikdnilaaGreatDoorValueOpposesCardM3
import Derived.Deep.DeepCutAuto
import Derived.Deep.RegionHeld3
/- whole.timesHalves: the walk. -/
namespace Go.Proofs.YtckkpolikdnilaaGreatDoor
open Go.RowKit Big

theorem val_zeros (B n : Nat) : val B (List.replicate n 0) = 0 := by
  induction n with
  | zero => rfl
  | succ n ih => rw [List.replicate_succ, val_cons, ih]; simp
theorem small_zeros {B : Nat} (hB : 0 < B) (n : Nat) : Small B (List.replicate n 0) := fun x hx => by rw [List.eq_of_mem_replicate hx]; exact hB

set_option maxRecDepth 100000 in
set_option maxHeartbeats 3200000 in
theorem timesHalves_any (v0 v1 : Value) (l0 l1 : List Nat) (w : World) (h0 : At w .u32 v0 l0) (h1 : At w .u32 v1 l1) (s0 : Small H l0) (s1 : Small H l1)
    (hl0 : l0.length ≤ 4398046511104) (hl1 : l1.length ≤ 4398046511104) : Calls Tryz.prog 136 #[v0, v1] w (ROwn 176 .u32 (dig H (val H l0 * val H l1)) w) := by
  obtain ⟨p0, c0, rfl, a1, a2, a3, a4⟩ := h0
  obtain ⟨p1, c1, rfl, b1, b2, b3, b4⟩ := h1
  unfold maxLen at a2 b2
  go_enter Tryz.func136, Tryz.ntmps136
  go_wp2_with (first
    | (at_make; refine wpList_full_at rfl _ _ 163 rfl elemHalves w.heap.size _ _ _ _ (l0.length + l1.length) rfl rfl (by first | rfl | omega | (simp; done)) (by first | rfl | omega | (simp; done)) (by omega) (by simp [maxLen]; omega) (Nat.le_refl _) ?_; intro vo w1 ho hb1 hs1 hvo; subst hvo))
  go_loopw [20] (fun i wr => ∃ (k : Nat) (O : List Nat), k ≤ l0.length ∧ i = .int .i64 (k : Nat) ∧ Own wr w.heap.size 176 .u32 (.slice (some ⟨w.heap.size, 0, none⟩) (l0.length + l1.length) (l0.length + l1.length)) O ∧ Hid (O.length = l0.length + l1.length) ∧ Small H O ∧
      Hid (∀ j, k + l1.length ≤ j → O[j]?.getD 0 = 0) ∧ Hid (val H O = val H (l0.take k) * val H l1) ∧ Below w.heap.size w wr ∧ w.heap.size ≤ wr.heap.size) (fun i _ => l0.length - (intOf i).toNat)
  case atStart => exact ⟨0, List.replicate (l0.length + l1.length) 0, Nat.zero_le _, rfl, ho, by simp [Hid], small_zeros (by decide) _, by unfold Hid; intro j _; simp [List.getElem?_replicate]; split <;> rfl, by unfold Hid; simp [val_zeros, val], hb1, hs1⟩
  case round =>
    obtain ⟨k, O, hk, rfl, hown, hO, hsO, hz, hv, hbel, hsz⟩ := hrel
    by_cases hkl : k < l0.length
    · obtain ⟨b, off, rfl, hbb, hcell⟩ := a4 (by omega)
      have e0 : wr.cell? ⟨b, off + k, none⟩ = some (.int .u32 (l0[k] : Nat)) := (hbel.cell (p := ⟨b, off + k, none⟩) hbb).trans (hcell k hkl)
      have x0 := small_get s0 k hkl
      obtain ⟨x, hx⟩ : ∃ x, x = l0[k] := ⟨_, rfl⟩
      rw [← hx] at e0 x0
      have Hx := hid hx; clear hx hcell a4
      unfold H at x0
      go_wp2_with fail
      go_loopw [8, 27] (fun c j wq => ∃ (i c' : Nat) (Q : List Nat), i ≤ l1.length ∧ j = .int .i64 (i : Nat) ∧ c = .int .u64 (c' : Nat) ∧ c' < 4294967296 ∧ Own wq w.heap.size 176 .u32 (.slice (some ⟨w.heap.size, 0, none⟩) (l0.length + l1.length) (l0.length + l1.length)) Q ∧ Hid (Q.length = l0.length + l1.length) ∧ Small H Q ∧
        Hid (∀ j, k + l1.length ≤ j → Q[j]?.getD 0 = 0) ∧ Hid (val H Q + c' * H ^ (k + i) = val H (l0.take k) * val H l1 + H ^ k * (x * val H (l1.take i))) ∧ Below w.heap.size w wq ∧ w.heap.size ≤ wq.heap.size) (fun _ j _ => l1.length - (intOf j).toNat)
      case atStart => exact ⟨0, 0, O, Nat.zero_le _, rfl, rfl, by omega, hown, hO, hsO, hz, by have := hv.out; unfold Hid; simp [val, this], hbel, hsz⟩
      case round =>
        obtain ⟨i, c', Q, hi, rfl, rfl, hc', hown', hQ, hsQ, hzQ, hvQ, hbel', hsz'⟩ := hrel
        by_cases hil : i < l1.length
        · obtain ⟨b', off', rfl, hbb', hcell'⟩ := b4 (by omega)
          have e1 := (hbel'.cell (p := ⟨b', off' + i, none⟩) hbb').trans (hcell' i hil)
          have y0 := small_get s1 i hil
          obtain ⟨y, hy⟩ : ∃ y, y = l1[i] := ⟨_, rfl⟩
          rw [← hy] at e1 y0
          have Hy := hid hy; clear hy hcell' b4
          unfold H at y0
          have hkq : k + i < Q.length := by rw [hQ.out]; omega
          obtain ⟨cc0, f0⟩ := hown'.cell (k + i) hkq
          have o0 := small_get hsQ (k + i) hkq
          obtain ⟨o, ho'⟩ : ∃ o, o = Q[k + i] := ⟨_, rfl⟩
          rw [← ho'] at cc0 o0
          have Ho := hid ho'; clear ho'
          unfold H at o0
          obtain ⟨m1, m2, m3⟩ := mulsum_lt x0 y0 o0 hc'
          obtain ⟨P, hP⟩ : ∃ P, P = x * y + o + c' := ⟨_, rfl⟩
          rw [← hP] at m2 m3
          have q1 : (x : Int) * (y : Int) ≤ 18446744065119617025 := by
            have : ((x * y : Nat) : Int) ≤ 18446744065119617025 := by omega
            rwa [Int.natCast_mul] at this
          have q2 : 0 ≤ (x : Int) * (y : Int) := by rw [← Int.natCast_mul]; omega
          have q3 : (x : Int) * (y : Int) + (o : Int) + (c' : Int) = (P : Int) := by rw [hP]; simp
          have q4 : (x : Int) * (y : Int) + (o : Int) + (c' : Int) ≤ 18446744073709551615 := by rw [q3]; omega
          have HP := hid hP; have Q3 := hid q3
          clear hP q3
          go_wp2
          have r1 : ((x : Int) * (y : Int) + (o : Int) + (c' : Int)) / 4294967296 = ((P / 4294967296 : Nat) : Int) := by rw [Q3.out]; omega
          have r2 : ((x : Int) * (y : Int) + (o : Int) + (c' : Int)) % 4294967296 = ((P % 4294967296 : Nat) : Int) := by rw [Q3.out]; omega
          rw [r1, r2]
          have hset := hown'.set (k + i) (P % 4294967296)
          have hz' : ∀ j, k + l1.length ≤ j → (Q.set (k + i) (P % 4294967296))[j]?.getD 0 = 0 := fun j hj => by
            rw [List.getElem?_set_ne (by omega)]; exact hzQ.out j hj
          have hv' : val H (Q.set (k + i) (P % 4294967296)) + P / 4294967296 * H ^ (k + (i + 1)) = val H (l0.take k) * val H l1 + H ^ k * (x * val H (l1.take (i + 1))) := by
            have := times_step (HI := H ^ k) (HJ := H ^ i) (y := y) hkq (show P = x * y + Q[k + i] + c' by rw [← Ho.out]; exact HP.out) (Nat.pow_add ..) hvQ.out
            rw [val_take_succ H l1 i hil, ← Hy.out]
            exact this
          go_roundw
          case rel => exact ⟨i + 1, P / 4294967296, Q.set (k + i) (P % 4294967296), by omega, by go_num, rfl, m3, hset.1, by unfold Hid; rw [List.length_set]; exact hQ.out, small_set hsQ _ (Nat.mod_lt _ (by decide)), hz', hv',
            hbel'.setCell (p := ⟨w.heap.size, k + i, none⟩) (Nat.le_refl _) _, by simpa [World.setCell] using hsz'⟩
          case measure => (simp [intOf] <;> omega)
        · obtain rfl : i = l1.length := by omega
          have hkq : k + l1.length < Q.length := by rw [hQ.out]; omega
          obtain ⟨cc0, f0⟩ := hown'.cell (k + l1.length) hkq
          have o0 : Q[k + l1.length] = 0 := by have := hzQ.out (k + l1.length) (Nat.le_refl _); simpa [hkq] using this
          have hvs := val_set H Q (k + l1.length) c' hkq
          rw [o0, Nat.mul_zero, Nat.add_zero] at hvs
          have hset := hown'.set (k + l1.length) c'
          have hv' : val H (Q.set (k + l1.length) c') = val H (l0.take (k + 1)) * val H l1 := by
            have := hvQ.out
            rw [List.take_length] at this
            rw [hvs, val_take_succ H l0 k hkl, ← Hx.out, Nat.add_mul, Nat.mul_comm (H ^ (k + l1.length)), this, Nat.mul_assoc]
          have hz' : ∀ j, k + 1 + l1.length ≤ j → (Q.set (k + l1.length) c')[j]?.getD 0 = 0 := fun j hj => by
            rw [List.getElem?_set_ne (by omega)]; exact hzQ.out j (by omega)
          have HV := hid hv'
          clear hvs hv' o0 b4
          have hmod : (c' : Int) % 4294967296 = (c' : Int) := by omega
          go_wp2
          first | rw [hmod] | skip
          go_roundw
          case rel => exact ⟨k + 1, Q.set (k + l1.length) c', by omega, by go_num, hset.1, by unfold Hid; rw [List.length_set]; exact hQ.out, small_set hsQ _ (show c' < 4294967296 from hc'), hz', HV.out,
            hbel'.setCell (p := ⟨w.heap.size, k + l1.length, none⟩) (Nat.le_refl _) _, by simpa [World.setCell] using hsz'⟩
          case measure => (simp [intOf] <;> omega)
    · obtain rfl : k = l0.length := by omega
      have hv' : Hid (strip O = dig H (val H l0 * val H l1)) := by
        have := hv.out
        rw [List.take_length] at this
        unfold Hid
        rw [← this, strip_dig H2 hsO]
      have hst := strip_length O
      have ht := hid (htrim_val _ O wr hown.at)
      clear a4 b4
      go_wp2_with (go_at_call 146; refine ht.out.mono ?_; rintro e w' ⟨rfl, rfl⟩; simp only [cutTo])
      go_ret
      exact ⟨_, rfl, by rw [← hv'.out]; have := hown.take (strip O).length hst; rwa [← strip_is_take] at this, hbel⟩
end Go.Proofs.YtckkpolikdnilaaGreatDoor
/- whole.divide of numbers of one word. -/
namespace Go.Proofs.YtckkpolikdnilaaGreatDoor
open Go.RowKit Big

def RTwoNat (q r : Nat) (w : World) (e : Ending) (w' : World) : Prop := ∃ v v', e = .returned (.tuple #[v, v']) ∧ At w' .u64 v (dig W q) ∧ At w' .u64 v' (dig W r) ∧ Below w.heap.size w w'

theorem head_dig {n : Nat} (h : n < W) : (dig W n).headD 0 = n := by
  by_cases h0 : n = 0
  · subst h0; rfl
  · rw [dig_one W2 (by omega) h]; rfl

end Go.Proofs.YtckkpolikdnilaaGreatDoor
/- whole.times and whole.Mul. -/
namespace Go.Proofs.YtckkpolikdnilaaGreatDoor
open Go.RowKit Big

set_option maxHeartbeats 800000 in
theorem fits_yes (v : Value) (n : Nat) (w : World) (h : At w .u64 v (dig W n)) (hn : n < H) : Calls Tryz.prog 133 #[v] w (fun e w' => e = .returned (.bool true) ∧ w = w') := by
  have hw : n < W := Nat.lt_trans hn (by decide)
  have g := word_any v _ w h
  rw [head_dig hw] at g
  have G := hid g; clear g
  have hl : (dig W n).length ≤ 1 := sz_word hw
  obtain ⟨p, c, rfl, -⟩ := h
  generalize (dig W n).length = k at *
  unfold H at hn
  clear hw
  have h0 : (n : Int) / 4294967296 = 0 := by omega
  go_enter Tryz.func133, Tryz.ntmps133
  go_wp2_with (go_at_call 134; refine G.out.mono ?_; rintro e w' ⟨rfl, rfl⟩)
  go_ret
  exact ⟨rfl, rfl⟩
set_option maxHeartbeats 800000 in
theorem fits_no (v : Value) (n : Nat) (w : World) (h : At w .u64 v (dig W n)) (hn : H ≤ n) : Calls Tryz.prog 133 #[v] w (fun e w' => e = .returned (.bool false) ∧ w = w') := by
  by_cases hw : n < W
  · have g := word_any v _ w h
    rw [head_dig hw] at g
    have G := hid g; clear g
    have hl : (dig W n).length ≤ 1 := sz_word hw
    obtain ⟨p, c, rfl, -⟩ := h
    generalize (dig W n).length = k at *
    unfold H at hn
    unfold W at hw
    have h0 : ((n : Int) / 4294967296 == 0) = false := beq_eq_false_iff_ne.2 (by omega)
    go_enter Tryz.func133, Tryz.ntmps133
    go_wp2_with (go_at_call 134; refine G.out.mono ?_; rintro e w' ⟨rfl, rfl⟩)
    go_ret
    exact ⟨rfl, rfl⟩
  · have hl : ¬ (dig W n).length ≤ 1 := fun e => hw (Nat.lt_of_lt_of_le (lt_pow_sz W2 n) (Nat.le_trans (Nat.pow_le_pow_right (by decide) (show sz W n ≤ 1 from e)) (by simp)))
    obtain ⟨p, c, rfl, -⟩ := h
    generalize (dig W n).length = k at *
    have hd : decide ((k : Int) ≤ 1) = false := decide_eq_false (by omega)
    clear hn hw
    go_enter Tryz.func133, Tryz.ntmps133
    go_wp2_with fail
    go_ret
    exact ⟨rfl, rfl⟩

theorem sz_H_W (n : Nat) : sz H n ≤ 2 * sz W n := by
  refine sz_le_of_lt H2 ?_
  rw [Nat.pow_mul, show H ^ 2 = W from rfl]
  exact lt_pow_sz W2 n

set_option maxRecDepth 100000 in
set_option maxHeartbeats 1600000 in
theorem times_any (v0 v1 : Value) (n m : Nat) (w : World) (h0 : At w .u64 v0 (dig W n)) (h1 : At w .u64 v1 (dig W m)) (b0 : sz W n ≤ 549755813888) (b1 : sz W m ≤ 549755813888) :
    Calls Tryz.prog 120 #[v0, v1] w (RAt .u64 (dig W (n * m)) w) := by
  by_cases hs : n < H ∧ m < H
  · obtain ⟨hn, hm⟩ := hs
    have f0 := hid (fits_yes v0 n w h0 hn)
    have f1 := hid (fits_yes v1 m w h1 hm)
    have wn : n < W := Nat.lt_trans hn (by decide)
    have wm : m < W := Nat.lt_trans hm (by decide)
    have g0 := word_any v0 _ w h0
    have g1 := word_any v1 _ w h1
    rw [head_dig wn] at g0
    rw [head_dig wm] at g1
    have G0 := hid g0; have G1 := hid g1
    have hp : n * m < W := by
      have : n * m ≤ 4294967295 * 4294967295 := Nat.mul_le_mul (by unfold H at hn; omega) (by unfold H at hm; omega)
      unfold W; omega
    have hw : IntKind.u64.wrap ((n : Int) * (m : Int)) = ((n * m : Nat) : Int) := by rw [← Int.natCast_mul]; exact wrap_nat _ hp
    have hO := ownWord_any (n * m) w hp
    have HO := hid hO; have Hw := hid hw
    clear g0 g1 hw hO hp hn hm wn wm b0 b1 h0 h1
    go_enter Tryz.func120, Tryz.ntmps120
    go_wp2_with fail
    refine f0.out.mono ?_
    rintro e w' ⟨rfl, rfl⟩
    go_wp2_with fail
    refine f1.out.mono ?_
    rintro e w' ⟨rfl, rfl⟩
    go_wp2_with fail
    refine G0.out.mono ?_
    rintro e w' ⟨rfl, rfl⟩
    go_wp2_with fail
    refine G1.out.mono ?_
    rintro e w' ⟨rfl, rfl⟩
    go_wp2_with fail
    rw [Hw.out]
    refine HO.out.mono ?_
    rintro e w1 ⟨v, rfl, hv, hb⟩
    go_wp2_with fail
    go_ret
    exact ⟨_, rfl, hv, hb⟩
  · have hb0 : sz H n ≤ 1099511627776 := Nat.le_trans (sz_H_W n) (by omega)
    have hb1 : sz H m ≤ 1099511627776 := Nat.le_trans (sz_H_W m) (by omega)
    have hb2 : sz H (n * m) ≤ 2199023255552 := Nat.le_trans (sz_mul H2 n m) (by omega)
    have s0 := split_any v0 (dig W n) w h0 (small_dig W2 n) (by have : (dig W n).length = sz W n := rfl; omega)
    rw [val_dig W2] at s0
    have s1 : ∀ W', Below w.heap.size w W' → Calls Tryz.prog 137 #[v1] W' (ROwn 176 .u32 (dig H m) W') := fun W' hb => by
      have := split_any v1 (dig W m) W' (h1.below hb) (small_dig W2 m) (by have : (dig W m).length = sz W m := rfl; omega)
      rwa [val_dig W2] at this
    have th : ∀ W' u u', At W' .u32 u (dig H n) → At W' .u32 u' (dig H m) → Calls Tryz.prog 136 #[u, u'] W' (ROwn 176 .u32 (dig H (n * m)) W') := fun W' u u' hu hu' => by
      have := timesHalves_any u u' _ _ W' hu hu' (small_dig H2 n) (small_dig H2 m) (by have : (dig H n).length = sz H n := rfl; omega) (by have : (dig H m).length = sz H m := rfl; omega)
      rwa [val_dig H2, val_dig H2] at this
    have S0 := hid s0; have S1 := hid s1; have Th := hid th
    have f0 : Hid (Calls Tryz.prog 133 #[v0] w (fun e w' => e = .returned (.bool (decide (n < H))) ∧ w = w')) := by
      unfold Hid
      by_cases hn : n < H
      · rw [decide_eq_true hn]; exact fits_yes v0 n w h0 hn
      · rw [decide_eq_false hn]; exact fits_no v0 n w h0 (Nat.le_of_not_lt hn)
    have f1 : n < H → Calls Tryz.prog 133 #[v1] w (fun e w' => e = .returned (.bool false) ∧ w = w') := fun hn => fits_no v1 m w h1 (Nat.le_of_not_lt fun hm => hs ⟨hn, hm⟩)
    have F1 := hid f1
    clear s0 s1 th hs f1 h0 h1 b0 b1 hb0 hb1
    by_cases hn : n < H
    · rw [decide_eq_true hn] at f0
      go_enter Tryz.func120, Tryz.ntmps120
      go_wp2_with fail
      refine f0.out.mono ?_
      rintro e w' ⟨rfl, rfl⟩
      go_wp2_with fail
      refine (F1.out hn).mono ?_
      rintro e w' ⟨rfl, rfl⟩
      go_wp2_with fail
      refine S0.out.mono ?_
      rintro e w1 ⟨u, rfl, hu, hu1⟩
      go_wp2_with fail
      refine (S1.out _ hu1).mono ?_
      rintro e w2 ⟨u', rfl, hu', hu2⟩
      go_wp2_with fail
      refine (Th.out _ _ _ (hu.at.below hu2) hu'.at).mono ?_
      rintro e w3 ⟨u3, rfl, hu3, hb3⟩
      go_wp2_with fail
      refine (join_any _ _ _ hu3.at (by omega)).mono ?_
      rintro e w4 ⟨u4, rfl, hu4, hb4⟩
      have hbel := hid (Below.go hb4 (Below.go hb3 (Below.go hu2 hu1)))
      clear hu1 hu2 hb3 hb4
      go_wp2_with fail
      go_ret
      exact ⟨_, rfl, hu4.at, hbel.out⟩
    · rw [decide_eq_false hn] at f0
      go_enter Tryz.func120, Tryz.ntmps120
      go_wp2_with fail
      refine f0.out.mono ?_
      rintro e w' ⟨rfl, rfl⟩
      go_wp2_with fail
      refine S0.out.mono ?_
      rintro e w1 ⟨u, rfl, hu, hu1⟩
      go_wp2_with fail
      refine (S1.out _ hu1).mono ?_
      rintro e w2 ⟨u', rfl, hu', hu2⟩
      go_wp2_with fail
      refine (Th.out _ _ _ (hu.at.below hu2) hu'.at).mono ?_
      rintro e w3 ⟨u3, rfl, hu3, hb3⟩
      go_wp2_with fail
      refine (join_any _ _ _ hu3.at (by omega)).mono ?_
      rintro e w4 ⟨u4, rfl, hu4, hb4⟩
      have hbel := hid (Below.go hb4 (Below.go hb3 (Below.go hu2 hu1)))
      clear hu1 hu2 hb3 hb4
      go_wp2_with fail
      go_ret
      exact ⟨_, rfl, hu4.at, hbel.out⟩

theorem sg_mul (n0 n1 : Bool) (x y : Nat) : sg (n0 != n1) (x * y) = sg n0 x * sg n1 y := by
  unfold sg; cases n0 <;> cases n1 <;> simp [Int.neg_mul, Int.mul_neg]

set_option maxRecDepth 100000 in
set_option maxHeartbeats 1600000 in
theorem Mul_any (v0 v1 : Value) (a b : Int) (w : World) (h0 : RawAt w v0 a) (h1 : RawAt w v1 b) (ha : sz W a.natAbs ≤ 549755813888) (hb : sz W b.natAbs ≤ 549755813888) :
    Calls Tryz.prog 106 #[v0, v1] w (RInt (a * b) w) := by
  obtain ⟨n0, s0, l0, rfl, a0, b0, c0, rfl⟩ := h0
  obtain ⟨n1, s1, l1, rfl, a1, b1, c1, rfl⟩ := h1
  rw [sg_natAbs] at ha hb
  have t0 : ∀ W : World, At W .u64 s0 l0 → Calls Tryz.prog 88 #[s0] W (fun e w' => e = .returned (cutTo s0 (strip l0).length) ∧ w' = W) := fun W h => trim_val s0 l0 W h
  have t1 : ∀ W : World, At W .u64 s1 l1 → Calls Tryz.prog 88 #[s1] W (fun e w' => e = .returned (cutTo s1 (strip l1).length) ∧ w' = W) := fun W h => trim_val s1 l1 W h
  have T0 := hid t0; have T1 := hid t1; clear t0 t1
  have d0 := hid (strip_dig W2 b0)
  have d1 := hid (strip_dig W2 b1)
  obtain ⟨r, hr⟩ : ∃ r, r = sg n0 (val W l0) * sg n1 (val W l1) := ⟨_, rfl⟩
  rw [← hr]
  have Hr : Hid (sg (n0 != n1) (val W l0 * val W l1) = r) := by unfold Hid; rw [sg_mul, hr]
  clear hr
  go_enter Tryz.func106, Tryz.ntmps106
  go_wp2_with fail
  generalize hW : World.alloc (World.alloc (World.alloc w _) _) _ = W3
  have bw : Below w.heap.size w W3 := by rw [← hW]; exact ((below1 _ _).alloc (by simp) _).alloc (by simp; omega) _
  have hp : Pair W3 (w.heap.size + 1 + 1) 44 := by rw [← hW]; exact Pair.new2 ..
  obtain ⟨c00, c01, c10, c11, -⟩ : Two W3 w.heap.size (.bool n0) s0 (.bool n1) s1 := by rw [← hW]; exact (Two.new w _ _ _ _ _).below (below1 _ _)
  have z3 : w.heap.size + 3 ≤ W3.heap.size := by rw [← hW]; simp
  have A0 : ∀ W', Below W3.heap.size W3 W' → At W' .u64 (cutTo s0 (strip l0).length) (dig W (val W l0)) := fun W' h' => by have := ((a0.below bw).below h').strip; rwa [d0.out] at this ⊢
  have A1 : ∀ W', Below W3.heap.size W3 W' → At W' .u64 (cutTo s1 (strip l1).length) (dig W (val W l1)) := fun W' h' => by have := ((a1.below bw).below h').strip; rwa [d1.out] at this ⊢
  have HA0 := hid A0; have HA1 := hid A1; have bw' := hid bw; have a0' := hid (a0.below bw); have a1' := hid (a1.below bw)
  clear hW bw A0 A1 a0 a1
  generalize cutTo s0 (strip l0).length = u0 at *
  generalize cutTo s1 (strip l1).length = u1 at *
  generalize val W l0 = x at *
  generalize val W l1 = y at *
  clear d0 d1 b0 b1 c0 c1
  go_region_held3 (fun w' => w'.cell? ⟨w.heap.size, 0, none⟩ = some (.bool n0) ∧ w'.cell? ⟨w.heap.size, 1, none⟩ = some s0 ∧ w'.cell? ⟨w.heap.size + 1, 0, none⟩ = some (.bool n1) ∧ w'.cell? ⟨w.heap.size + 1, 1, none⟩ = some s1 ∧ Pair w' (w.heap.size + 1 + 1) 44)
    (first | (go_split_ands; (try dsimp only); (repeat' apply And.intro) <;> first | assumption | exact Pair.drew ‹_› | exact Pair.below ‹_› hb9 | exact Pair.below ‹_› hb8 | exact Pair.below ‹_› hb7 | exact Pair.below ‹_› hb6 | exact Pair.below ‹_› hb5 | exact Pair.below ‹_› hb4 | exact Pair.below ‹_› hb3 | exact Pair.below ‹_› hb2 | exact Pair.below ‹_› hb1 | exact (hb9.cell (by first | omega | (simp; omega) | (simp; done))).trans ‹_› | exact (hb8.cell (by first | omega | (simp; omega) | (simp; done))).trans ‹_› | exact (hb7.cell (by first | omega | (simp; omega) | (simp; done))).trans ‹_› | exact (hb6.cell (by first | omega | (simp; omega) | (simp; done))).trans ‹_› | exact (hb5.cell (by first | omega | (simp; omega) | (simp; done))).trans ‹_› | exact (hb4.cell (by first | omega | (simp; omega) | (simp; done))).trans ‹_› | exact (hb3.cell (by first | omega | (simp; omega) | (simp; done))).trans ‹_› | exact (hb2.cell (by first | omega | (simp; omega) | (simp; done))).trans ‹_› | exact (hb1.cell (by first | omega | (simp; omega) | (simp; done))).trans ‹_› | exact Pair.set1 (Pair.set0 ‹_› _) _ _ _ | exact (cell_stored _ (by first | (dsimp only; omega) | (simp; done) | (simp; omega)) _ _).trans ‹_› | exact Pair.drew (Pair.below ‹_› (below1 _ _)) | exact Pair.below ‹_› (below1 _ _) | exact Pair.far ‹_› (by omega) hb1 | exact Pair.new .. | exact Pair.new1 .. | exact Pair.new2 .. | (go_keep; done)) | (go_keep; done))
    (first
      | (go_at_call_of 88 (s0); refine (T0.out _ a0'.out.drew).mono ?_; rintro e w' ⟨rfl, rfl⟩)
      | (go_at_call_of 88 (s1); refine (T1.out _ a1'.out.drew).mono ?_; rintro e w' ⟨rfl, rfl⟩)
      | (go_at_call 120; refine (times_any u0 u1 x y _ (HA0.out _ (Below.drew (Below.refl _ _))) (HA1.out _ (Below.drew (Below.refl _ _))) ha hb).mono ?_; rintro e w1 ⟨v1, rfl, ho1, hb1⟩; have hz1 : w.heap.size + 3 ≤ w1.heap.size := (by have := hb1.size; simp at this; omega))
      | (go_at_call 58; refine (told_any (n0 != n1) _ _ _ ho1).mono ?_; rintro e w2 ⟨v2, rfl, hi2, hb2⟩; obtain ⟨p2, n2, c2, rfl, hi2⟩ := hi2.shape; have hpr := Pair.below (by go_split_ands; assumption) hb2; obtain ⟨_, _, q0, q1, q2, q3⟩ := hpr.cells))
  go_wp2
  exact bodyPost_ret (v := .agg #[.bool (decide (sg (n0 != n1) (x * y) < 0)), .slice p2 n2 c2]) (by simp [results, Tryz.results106, go_sem, q0, q1]) rfl
    ⟨_, rfl, by rw [← Hr.out]; exact hi2.stored hpr _ _ _ _, Below.stored ((bw'.out.drew.trans (hb1.mono (B' := w.heap.size) (by simp; omega))).trans (hb2.mono (B' := w.heap.size) (by omega))) (by omega) _ _⟩
end Go.Proofs.YtckkpolikdnilaaGreatDoor
/- value.meaning's product and told. -/
namespace Go.Proofs.YtckkpolikdnilaaGreatDoor
open Go.RowKit Big Go.WideMaps

set_option maxRecDepth 100000 in
set_option maxHeartbeats 3200000 in
theorem mproduct_any (g : Nat) (w : World) (syms : List Sy) (ts : List Tb5) (t : Tm) (l : List Int) (h : MeanAt w g syms ts t l) (hl : 1 ≤ l.length) (hs0 : sz Big.W t.num.natAbs ≤ 549755813888) (hs1 : ∀ z ∈ l, sz Big.W z.natAbs ≤ 549755813888) :
    Calls Tryz.prog 82 #[.pointer (some ⟨g, 0, none⟩)] w (RInt (t.num * vlAt l 0) w) := by
  have b0 := below1 w (.cells #[.bool false, .slice none 0 0] 44)
  have hp : Pair (w.alloc (.cells #[.bool false, .slice none 0 0] 44)) w.heap.size 44 := Pair.new ..
  generalize hW : w.alloc (.cells #[.bool false, .slice none 0 0] 44) = W at *
  obtain ⟨vs, vt, va, nn, ns, vp, h0, h1, h2, h3, h4⟩ := h
  have G : g < w.heap.size := (Array.getElem?_eq_some_iff.1 h0).1
  obtain ⟨x0, x1, x2, x4, x5, x6, x7⟩ := rec8_cells ((b0.block g G).trans h0)
  clear h0
  obtain ⟨m0, o0, c0, n0, q0, d0, g0, e0, M0, y0, z0, r0⟩ := h4.at 0 (by omega)
  rw [e0] at x7
  have M := hid M0
  clear M0
  have M := M.out
  have y0 := (b0.cell (p := ⟨m0, o0 + 0 * 2, none⟩) M).trans y0
  have z0 := (b0.cell (p := ⟨m0, o0 + 0 * 2 + 1, none⟩) M).trans z0
  have r0 := r0.below b0
  have hl0 : (0 : Int) < (l.length : Int) := by omega
  have hln : 0 < l.length := by omega
  have hv0 : vlAt l 0 = l[0] := by unfold vlAt; simp [show (0 : Int).toNat = 0 from rfl, List.getElem?_eq_getElem (show 0 < l.length by omega)]
  rw [hv0]
  clear hv0
  have hs := h3.shape
  obtain ⟨qn, dn, gn, rfl⟩ := hs
  have h3 := h3.below b0
  have Hc0 := hid (fun w' (hb : Below W.heap.size W w') => Mul_any _ _ _ _ w' (h3.below hb) (r0.below hb) hs0 (hs1 _ (List.getElem_mem (show 0 < l.length by omega))))
  have y0 : W.cell? ⟨m0, o0, none⟩ = some (.bool n0) := y0
  have z0 : W.cell? ⟨m0, o0 + 1, none⟩ = some (.slice q0 d0 g0) := (congrArg (fun k => W.cell? ⟨m0, k, none⟩) (by omega)).trans z0
  clear h1 h2 h3 h4 r0 e0 hs0 hs1
  generalize l[0] = a0 at *
  have hz : W.heap.size = w.heap.size + 1 := by rw [← hW, size_alloc]
  go_enter Tryz.func82, Tryz.ntmps82
  go_wp2_with fail
  go_region_held3 (fun w' => w'.cell? ⟨g, 4, none⟩ = some (.bool nn) ∧ w'.cell? ⟨g, 5, none⟩ = some (.slice qn dn gn) ∧ w'.cell? ⟨g, 7, none⟩ = some (.slice (some ⟨m0, o0, none⟩) l.length c0) ∧ w'.cell? ⟨m0, o0, none⟩ = some (.bool n0) ∧ w'.cell? ⟨m0, o0 + 1, none⟩ = some (.slice q0 d0 g0) ∧ Pair w' w.heap.size 44)
    (first | (go_split_ands; (try dsimp only); (repeat' apply And.intro) <;> first | assumption | exact Pair.drew ‹_› | exact Pair.below ‹_› hb9 | exact Pair.below ‹_› hb8 | exact Pair.below ‹_› hb7 | exact Pair.below ‹_› hb6 | exact Pair.below ‹_› hb5 | exact Pair.below ‹_› hb4 | exact Pair.below ‹_› hb3 | exact Pair.below ‹_› hb2 | exact Pair.below ‹_› hb1 | exact (hb9.cell (by first | omega | (simp; omega) | (simp; done))).trans ‹_› | exact (hb8.cell (by first | omega | (simp; omega) | (simp; done))).trans ‹_› | exact (hb7.cell (by first | omega | (simp; omega) | (simp; done))).trans ‹_› | exact (hb6.cell (by first | omega | (simp; omega) | (simp; done))).trans ‹_› | exact (hb5.cell (by first | omega | (simp; omega) | (simp; done))).trans ‹_› | exact (hb4.cell (by first | omega | (simp; omega) | (simp; done))).trans ‹_› | exact (hb3.cell (by first | omega | (simp; omega) | (simp; done))).trans ‹_› | exact (hb2.cell (by first | omega | (simp; omega) | (simp; done))).trans ‹_› | exact (hb1.cell (by first | omega | (simp; omega) | (simp; done))).trans ‹_› | exact Pair.set1 (Pair.set0 ‹_› _) _ _ _ | exact (cell_stored _ (by first | (dsimp only; omega) | (simp; done) | (simp; omega)) _ _).trans ‹_› | exact Pair.drew (Pair.below ‹_› (below1 _ _)) | exact Pair.below ‹_› (below1 _ _) | exact Pair.far ‹_› (by omega) hb1 | exact Pair.new .. | exact Pair.new1 .. | exact Pair.new2 .. | (go_keep; done)) | (go_keep; done))
    (first | (go_at_call 106; refine (Hc0.out _ ?_).mono ?_; (repeat (first | exact Below.refl _ _ | apply Below.drew)); rintro e w2 ⟨v2, rfl, hi2, hb2⟩; have hz1 : W.heap.size ≤ w2.heap.size := (by have := hb2.size; simp at this; omega); obtain ⟨p2, n2, c2, rfl, hi2⟩ := hi2.shape; have hpr := Pair.below (by go_split_ands; assumption) hb2; obtain ⟨_, _, q0, q1, q2, q3⟩ := hpr.cells))
  go_wp2
  exact bodyPost_ret (v := .agg #[.bool (decide (t.num * a0 < 0)), .slice p2 n2 c2]) (by simp [results, Tryz.results82, go_sem, q0, q1]) rfl ⟨_, rfl, hi2.stored hpr _ _ _ _, Below.stored (b0.drew.trans (hb2.mono (B' := w.heap.size) (by first | omega | (simp; omega)))) (by omega) _ _⟩
end Go.Proofs.YtckkpolikdnilaaGreatDoor
/- value.meaning's product and told. -/
namespace Go.Proofs.YtckkpolikdnilaaGreatDoor
open Go.RowKit Big Go.WideMaps

set_option maxRecDepth 100000 in
set_option maxHeartbeats 3200000 in
theorem mtold_any (g : Nat) (w : World) (syms : List Sy) (ts : List Tb5) (t : Tm) (l : List Int) (h : MeanAt w g syms ts t l) (k : Nat) (hk : t.sym = (k : Nat)) (hs : k < syms.length) (ht : k < ts.length) :
    Calls Tryz.prog 76 #[.pointer (some ⟨g, 0, none⟩)] w (RInt (vlTell (syms[k].sort) ts[k] l) w) := by
  have b0 := below1 w (.cells #[.bool false, .slice none 0 0] 44)
  have hp : Pair (w.alloc (.cells #[.bool false, .slice none 0 0] 44)) w.heap.size 44 := Pair.new ..
  generalize hW : w.alloc (.cells #[.bool false, .slice none 0 0] 44) = W at *
  obtain ⟨vs, vt, va, nn, ns, vp, h0, h1, h2, h3, h4⟩ := h
  have G : g < w.heap.size := (Array.getElem?_eq_some_iff.1 h0).1
  obtain ⟨x0, x1, x2, x4, x5, x6, x7⟩ := rec8_cells ((b0.block g G).trans h0)
  clear h0
  obtain ⟨ps, cs, rfl, i0, i1, i2, i3⟩ := h1
  obtain ⟨bs, os, rfl, hbs, hcs⟩ := i3 (by omega)
  obtain ⟨k0, k1, k2⟩ := hcs k hs
  obtain ⟨pt, ct, rfl, j0, j1, j2, j3⟩ := h2
  obtain ⟨bt, ot, rfl, hbt, hct⟩ := j3 (by omega)
  obtain ⟨ta, tn, tsl, k3, k4, k5, htab⟩ := hct k ht
  obtain ⟨pp, cp, rfl, -⟩ := id h4
  have hsh := htab.2.shape
  obtain ⟨qt, dt, gt, rfl⟩ := hsh
  obtain ⟨⟨pr, cr, rfl, -⟩, -⟩ := id htab
  have Hc0 := hid (fun w' (hb : Below W.heap.size W w') => Tell_any (.string ⟨syms[k].name.toArray⟩) ⟨_, rfl⟩ syms[k].arity syms[k].sort _ _ _ _ ts[k] l w' ((htab.below b0).below hb) ((h4.below b0).below hb))
  have k0 := (b0.cell (p := ⟨bs, os + k * 3, none⟩) hbs).trans k0
  have k1 := (b0.cell (p := ⟨bs, os + k * 3 + 1, none⟩) hbs).trans k1
  have k2 := (b0.cell (p := ⟨bs, os + k * 3 + 2, none⟩) hbs).trans k2
  have k3 := (b0.cell (p := ⟨bt, ot + k * 3, none⟩) hbt).trans k3
  have k4 := (b0.cell (p := ⟨bt, ot + k * 3 + 1, none⟩) hbt).trans k4
  have k5 := (b0.cell (p := ⟨bt, ot + k * 3 + 2, none⟩) hbt).trans k5
  rw [hk] at x6
  clear h3 h4 htab hct hcs i0 i1 i2 i3 j0 j1 j2 j3 hk
  have b1 : (0 : Int) ≤ (k : Int) := by omega
  have b2 : (k : Int) < (syms.length : Int) := by omega
  have b3 : (k : Int) < (ts.length : Int) := by omega
  generalize vlTell syms[k].sort ts[k] l = res at *
  generalize syms[k].sort = so at *
  generalize syms[k].arity = ar at *
  generalize (⟨syms[k].name.toArray⟩ : ByteArray) = nm at *
  generalize ts[k].rows.length = lr at *
  have hz : W.heap.size = w.heap.size + 1 := by rw [← hW, size_alloc]
  go_enter Tryz.func76, Tryz.ntmps76
  go_wp2_with fail
  go_region_held3 (fun w' => w'.cell? ⟨g, 0, none⟩ = some (.slice (some ⟨bs, os, none⟩) syms.length cs) ∧ w'.cell? ⟨g, 6, none⟩ = some (.int .i64 (k : Nat)) ∧ w'.cell? ⟨g, 1, none⟩ = some (.slice (some ⟨bt, ot, none⟩) ts.length ct) ∧ w'.cell? ⟨g, 7, none⟩ = some (.slice pp l.length cp) ∧ w'.cell? ⟨bs, os + k * 3, none⟩ = some (.string nm) ∧ w'.cell? ⟨bs, os + k * 3 + 1, none⟩ = some (.int .i64 ar) ∧ w'.cell? ⟨bs, os + k * 3 + 2, none⟩ = some (.int .i64 so) ∧ w'.cell? ⟨bt, ot + k * 3, none⟩ = some (.slice pr lr cr) ∧ w'.cell? ⟨bt, ot + k * 3 + 1, none⟩ = some (.bool tn) ∧ w'.cell? ⟨bt, ot + k * 3 + 2, none⟩ = some (.slice qt dt gt) ∧ Pair w' w.heap.size 44)
    (first | (go_split_ands; (try dsimp only); (repeat' apply And.intro) <;> first | assumption | exact Pair.drew ‹_› | exact Pair.below ‹_› hb9 | exact Pair.below ‹_› hb8 | exact Pair.below ‹_› hb7 | exact Pair.below ‹_› hb6 | exact Pair.below ‹_› hb5 | exact Pair.below ‹_› hb4 | exact Pair.below ‹_› hb3 | exact Pair.below ‹_› hb2 | exact Pair.below ‹_› hb1 | exact (hb9.cell (by first | omega | (simp; omega) | (simp; done))).trans ‹_› | exact (hb8.cell (by first | omega | (simp; omega) | (simp; done))).trans ‹_› | exact (hb7.cell (by first | omega | (simp; omega) | (simp; done))).trans ‹_› | exact (hb6.cell (by first | omega | (simp; omega) | (simp; done))).trans ‹_› | exact (hb5.cell (by first | omega | (simp; omega) | (simp; done))).trans ‹_› | exact (hb4.cell (by first | omega | (simp; omega) | (simp; done))).trans ‹_› | exact (hb3.cell (by first | omega | (simp; omega) | (simp; done))).trans ‹_› | exact (hb2.cell (by first | omega | (simp; omega) | (simp; done))).trans ‹_› | exact (hb1.cell (by first | omega | (simp; omega) | (simp; done))).trans ‹_› | exact Pair.set1 (Pair.set0 ‹_› _) _ _ _ | exact (cell_stored _ (by first | (dsimp only; omega) | (simp; done) | (simp; omega)) _ _).trans ‹_› | exact Pair.drew (Pair.below ‹_› (below1 _ _)) | exact Pair.below ‹_› (below1 _ _) | exact Pair.far ‹_› (by omega) hb1 | exact Pair.new .. | exact Pair.new1 .. | exact Pair.new2 .. | (go_keep; done)) | (go_keep; done))
    (first | (go_at_call 15; refine (Hc0.out _ ?_).mono ?_; (repeat (first | exact Below.refl _ _ | apply Below.drew)); rintro e w2 ⟨v2, rfl, hi2, hb2⟩; have hz1 : W.heap.size ≤ w2.heap.size := (by have := hb2.size; simp at this; omega); obtain ⟨p2, n2, c2, rfl, hi2⟩ := hi2.shape; have hpr := Pair.below (by go_split_ands; assumption) hb2; obtain ⟨_, _, q0, q1, q2, q3⟩ := hpr.cells))
  go_wp2
  exact bodyPost_ret (v := .agg #[.bool (decide (res < 0)), .slice p2 n2 c2]) (by simp [results, Tryz.results76, go_sem, q0, q1]) rfl ⟨_, rfl, hi2.stored hpr _ _ _ _, Below.stored (b0.drew.trans (hb2.mono (B' := w.heap.size) (by first | omega | (simp; omega)))) (by omega) _ _⟩
end Go.Proofs.YtckkpolikdnilaaGreatDoor
/- value.meaning's value. -/
namespace Go.Proofs.YtckkpolikdnilaaGreatDoor
open Go.RowKit Big Go.WideMaps

set_option maxRecDepth 100000 in
set_option maxHeartbeats 3200000 in
theorem mval_1 (g : Nat) (w : World) (syms : List Sy) (ts : List Tb5) (t : Tm) (l : List Int) (h : MeanAt w g syms ts t l) (ho : t.op = 1) :
    Calls Tryz.prog 29 #[.pointer (some ⟨g, 0, none⟩)] w (RInt (vlTruth (l.all (fun z => z != 0))) w) := by
  have b0 := below1 w (.cells #[.bool false, .slice none 0 0] 44)
  have hp : Pair (w.alloc (.cells #[.bool false, .slice none 0 0] 44)) w.heap.size 44 := Pair.new ..
  have hm := h.below b0
  generalize hW : w.alloc (.cells #[.bool false, .slice none 0 0] 44) = W at *
  have HM := hid (maker_1 g W syms ts t l hm ho)
  have HV := hid (fun w' (hb : Below W.heap.size W w') => mall_any g w' syms ts t l (hm.below hb))
  have hp := hid hp; have b0 := hid b0
  clear h hm ho
  generalize hz : (vlTruth (l.all (fun z => z != 0)) : Int) = z at *
  clear hz
  go_enter Tryz.func29, Tryz.ntmps29
  go_wp2_with fail
  clear hW
  refine HM.out.mono ?_
  rintro e w2 ⟨rfl, b2⟩
  have Hc := hid (HV.out w2 b2)
  have B2 := hid b2
  clear HM HV b2
  go_wp2_with fail
  refine Hc.out.mono ?_
  rintro e w3 ⟨v3, rfl, hi, b3⟩
  obtain ⟨p, l0, c, rfl, hi⟩ := hi.shape
  have hpr := hid (hp.out.below (bel_go b3 B2.out))
  have hq := hpr.out.cells
  obtain ⟨_, _, q0, q1, q2, q3⟩ := hq
  have Hi := hid hi; have Hb := hid (bel_go (bel_go b3 B2.out) b0.out)
  clear hi b3 Hc
  go_wp2
  exact bodyPost_ret (v := .agg #[.bool (decide (z < 0)), .slice p l0 c]) (by simp [results, Tryz.results29, go_sem, q0, q1]) rfl ⟨_, rfl, Hi.out.stored hpr.out _ _ _ _, Below.stored Hb.out (by omega) _ _⟩
set_option maxRecDepth 100000 in
set_option maxHeartbeats 3200000 in
theorem mval_2 (g : Nat) (w : World) (syms : List Sy) (ts : List Tb5) (t : Tm) (l : List Int) (h : MeanAt w g syms ts t l) (ho : t.op = 2) :
    Calls Tryz.prog 29 #[.pointer (some ⟨g, 0, none⟩)] w (RInt (vlTruth (l.any (fun z : Int => z != 0))) w) := by
  have b0 := below1 w (.cells #[.bool false, .slice none 0 0] 44)
  have hp : Pair (w.alloc (.cells #[.bool false, .slice none 0 0] 44)) w.heap.size 44 := Pair.new ..
  have hm := h.below b0
  generalize hW : w.alloc (.cells #[.bool false, .slice none 0 0] 44) = W at *
  have HM := hid (maker_2 g W syms ts t l hm ho)
  have HV := hid (fun w' (hb : Below W.heap.size W w') => msome_any g w' syms ts t l (hm.below hb))
  have hp := hid hp; have b0 := hid b0
  clear h hm ho
  generalize hz : (vlTruth (l.any (fun z : Int => z != 0)) : Int) = z at *
  clear hz
  go_enter Tryz.func29, Tryz.ntmps29
  go_wp2_with fail
  clear hW
  refine HM.out.mono ?_
  rintro e w2 ⟨rfl, b2⟩
  have Hc := hid (HV.out w2 b2)
  have B2 := hid b2
  clear HM HV b2
  go_wp2_with fail
  refine Hc.out.mono ?_
  rintro e w3 ⟨v3, rfl, hi, b3⟩
  obtain ⟨p, l0, c, rfl, hi⟩ := hi.shape
  have hpr := hid (hp.out.below (bel_go b3 B2.out))
  have hq := hpr.out.cells
  obtain ⟨_, _, q0, q1, q2, q3⟩ := hq
  have Hi := hid hi; have Hb := hid (bel_go (bel_go b3 B2.out) b0.out)
  clear hi b3 Hc
  go_wp2
  exact bodyPost_ret (v := .agg #[.bool (decide (z < 0)), .slice p l0 c]) (by simp [results, Tryz.results29, go_sem, q0, q1]) rfl ⟨_, rfl, Hi.out.stored hpr.out _ _ _ _, Below.stored Hb.out (by omega) _ _⟩
set_option maxRecDepth 100000 in
set_option maxHeartbeats 3200000 in
theorem mval_3 (g : Nat) (w : World) (syms : List Sy) (ts : List Tb5) (t : Tm) (l : List Int) (h : MeanAt w g syms ts t l) (ho : t.op = 3) :
    Calls Tryz.prog 29 #[.pointer (some ⟨g, 0, none⟩)] w (RInt (t.num) w) := by
  have b0 := below1 w (.cells #[.bool false, .slice none 0 0] 44)
  have hp : Pair (w.alloc (.cells #[.bool false, .slice none 0 0] 44)) w.heap.size 44 := Pair.new ..
  have hm := h.below b0
  generalize hW : w.alloc (.cells #[.bool false, .slice none 0 0] 44) = W at *
  have HM := hid (maker_3 g W syms ts t l hm ho)
  have HV := hid (fun w' (hb : Below W.heap.size W w') => mnumber_any g w' syms ts t l (hm.below hb))
  have hp := hid hp; have b0 := hid b0
  clear h hm ho
  generalize hz : (t.num : Int) = z at *
  clear hz
  go_enter Tryz.func29, Tryz.ntmps29
  go_wp2_with fail
  clear hW
  refine HM.out.mono ?_
  rintro e w2 ⟨rfl, b2⟩
  have Hc := hid (HV.out w2 b2)
  have B2 := hid b2
  clear HM HV b2
  go_wp2_with fail
  refine Hc.out.mono ?_
  rintro e w3 ⟨v3, rfl, hi, b3⟩
  obtain ⟨p, l0, c, rfl, hi⟩ := hi.shape
  have hpr := hid (hp.out.below (bel_go b3 B2.out))
  have hq := hpr.out.cells
  obtain ⟨_, _, q0, q1, q2, q3⟩ := hq
  have Hi := hid hi; have Hb := hid (bel_go (bel_go b3 B2.out) b0.out)
  clear hi b3 Hc
  go_wp2
  exact bodyPost_ret (v := .agg #[.bool (decide (z < 0)), .slice p l0 c]) (by simp [results, Tryz.results29, go_sem, q0, q1]) rfl ⟨_, rfl, Hi.out.stored hpr.out _ _ _ _, Below.stored Hb.out (by omega) _ _⟩
set_option maxRecDepth 100000 in
set_option maxHeartbeats 3200000 in
theorem mval_4 (g : Nat) (w : World) (syms : List Sy) (ts : List Tb5) (t : Tm) (l : List Int) (h : MeanAt w g syms ts t l) (ho : t.op = 4) (k : Nat) (hk : t.sym = (k : Nat)) (hs : k < syms.length) (ht : k < ts.length) :
    Calls Tryz.prog 29 #[.pointer (some ⟨g, 0, none⟩)] w (RInt (vlTell (syms[k].sort) ts[k] l) w) := by
  have b0 := below1 w (.cells #[.bool false, .slice none 0 0] 44)
  have hp : Pair (w.alloc (.cells #[.bool false, .slice none 0 0] 44)) w.heap.size 44 := Pair.new ..
  have hm := h.below b0
  generalize hW : w.alloc (.cells #[.bool false, .slice none 0 0] 44) = W at *
  have HM := hid (maker_4 g W syms ts t l hm ho)
  have HV := hid (fun w' (hb : Below W.heap.size W w') => mtold_any g w' syms ts t l (hm.below hb) k hk hs ht)
  have hp := hid hp; have b0 := hid b0
  clear h hm ho
  generalize hz : (vlTell (syms[k].sort) ts[k] l : Int) = z at *
  clear hz
  go_enter Tryz.func29, Tryz.ntmps29
  go_wp2_with fail
  clear hW
  refine HM.out.mono ?_
  rintro e w2 ⟨rfl, b2⟩
  have Hc := hid (HV.out w2 b2)
  have B2 := hid b2
  clear HM HV b2
  go_wp2_with fail
  refine Hc.out.mono ?_
  rintro e w3 ⟨v3, rfl, hi, b3⟩
  obtain ⟨p, l0, c, rfl, hi⟩ := hi.shape
  have hpr := hid (hp.out.below (bel_go b3 B2.out))
  have hq := hpr.out.cells
  obtain ⟨_, _, q0, q1, q2, q3⟩ := hq
  have Hi := hid hi; have Hb := hid (bel_go (bel_go b3 B2.out) b0.out)
  clear hi b3 Hc
  go_wp2
  exact bodyPost_ret (v := .agg #[.bool (decide (z < 0)), .slice p l0 c]) (by simp [results, Tryz.results29, go_sem, q0, q1]) rfl ⟨_, rfl, Hi.out.stored hpr.out _ _ _ _, Below.stored Hb.out (by omega) _ _⟩
set_option maxRecDepth 100000 in
set_option maxHeartbeats 3200000 in
theorem mval_5 (g : Nat) (w : World) (syms : List Sy) (ts : List Tb5) (t : Tm) (l : List Int) (h : MeanAt w g syms ts t l) (ho : t.op = 5) (hl : 1 ≤ l.length) :
    Calls Tryz.prog 29 #[.pointer (some ⟨g, 0, none⟩)] w (RInt (vlTruth (vlAt l 0 == 0)) w) := by
  have b0 := below1 w (.cells #[.bool false, .slice none 0 0] 44)
  have hp : Pair (w.alloc (.cells #[.bool false, .slice none 0 0] 44)) w.heap.size 44 := Pair.new ..
  have hm := h.below b0
  generalize hW : w.alloc (.cells #[.bool false, .slice none 0 0] 44) = W at *
  have HM := hid (maker_5 g W syms ts t l hm ho)
  have HV := hid (fun w' (hb : Below W.heap.size W w') => mnot_any g w' syms ts t l (hm.below hb) hl)
  have hp := hid hp; have b0 := hid b0
  clear h hm ho
  generalize hz : (vlTruth (vlAt l 0 == 0) : Int) = z at *
  clear hz
  go_enter Tryz.func29, Tryz.ntmps29
  go_wp2_with fail
  clear hW
  refine HM.out.mono ?_
  rintro e w2 ⟨rfl, b2⟩
  have Hc := hid (HV.out w2 b2)
  have B2 := hid b2
  clear HM HV b2
  go_wp2_with fail
  refine Hc.out.mono ?_
  rintro e w3 ⟨v3, rfl, hi, b3⟩
  obtain ⟨p, l0, c, rfl, hi⟩ := hi.shape
  have hpr := hid (hp.out.below (bel_go b3 B2.out))
  have hq := hpr.out.cells
  obtain ⟨_, _, q0, q1, q2, q3⟩ := hq
  have Hi := hid hi; have Hb := hid (bel_go (bel_go b3 B2.out) b0.out)
  clear hi b3 Hc
  go_wp2
  exact bodyPost_ret (v := .agg #[.bool (decide (z < 0)), .slice p l0 c]) (by simp [results, Tryz.results29, go_sem, q0, q1]) rfl ⟨_, rfl, Hi.out.stored hpr.out _ _ _ _, Below.stored Hb.out (by omega) _ _⟩
set_option maxRecDepth 100000 in
set_option maxHeartbeats 3200000 in
theorem mval_6 (g : Nat) (w : World) (syms : List Sy) (ts : List Tb5) (t : Tm) (l : List Int) (h : MeanAt w g syms ts t l) (ho : t.op = 6) :
    Calls Tryz.prog 29 #[.pointer (some ⟨g, 0, none⟩)] w (RInt (vlTruth (l.all (fun z => z != 0))) w) := by
  have b0 := below1 w (.cells #[.bool false, .slice none 0 0] 44)
  have hp : Pair (w.alloc (.cells #[.bool false, .slice none 0 0] 44)) w.heap.size 44 := Pair.new ..
  have hm := h.below b0
  generalize hW : w.alloc (.cells #[.bool false, .slice none 0 0] 44) = W at *
  have HM := hid (maker_6 g W syms ts t l hm ho)
  have HV := hid (fun w' (hb : Below W.heap.size W w') => mall_any g w' syms ts t l (hm.below hb))
  have hp := hid hp; have b0 := hid b0
  clear h hm ho
  generalize hz : (vlTruth (l.all (fun z => z != 0)) : Int) = z at *
  clear hz
  go_enter Tryz.func29, Tryz.ntmps29
  go_wp2_with fail
  clear hW
  refine HM.out.mono ?_
  rintro e w2 ⟨rfl, b2⟩
  have Hc := hid (HV.out w2 b2)
  have B2 := hid b2
  clear HM HV b2
  go_wp2_with fail
  refine Hc.out.mono ?_
  rintro e w3 ⟨v3, rfl, hi, b3⟩
  obtain ⟨p, l0, c, rfl, hi⟩ := hi.shape
  have hpr := hid (hp.out.below (bel_go b3 B2.out))
  have hq := hpr.out.cells
  obtain ⟨_, _, q0, q1, q2, q3⟩ := hq
  have Hi := hid hi; have Hb := hid (bel_go (bel_go b3 B2.out) b0.out)
  clear hi b3 Hc
  go_wp2
  exact bodyPost_ret (v := .agg #[.bool (decide (z < 0)), .slice p l0 c]) (by simp [results, Tryz.results29, go_sem, q0, q1]) rfl ⟨_, rfl, Hi.out.stored hpr.out _ _ _ _, Below.stored Hb.out (by omega) _ _⟩
set_option maxRecDepth 100000 in
set_option maxHeartbeats 3200000 in
theorem mval_7 (g : Nat) (w : World) (syms : List Sy) (ts : List Tb5) (t : Tm) (l : List Int) (h : MeanAt w g syms ts t l) (ho : t.op = 7) :
    Calls Tryz.prog 29 #[.pointer (some ⟨g, 0, none⟩)] w (RInt (vlTruth (l.any (fun z : Int => z != 0))) w) := by
  have b0 := below1 w (.cells #[.bool false, .slice none 0 0] 44)
  have hp : Pair (w.alloc (.cells #[.bool false, .slice none 0 0] 44)) w.heap.size 44 := Pair.new ..
  have hm := h.below b0
  generalize hW : w.alloc (.cells #[.bool false, .slice none 0 0] 44) = W at *
  have HM := hid (maker_7 g W syms ts t l hm ho)
  have HV := hid (fun w' (hb : Below W.heap.size W w') => msome_any g w' syms ts t l (hm.below hb))
  have hp := hid hp; have b0 := hid b0
  clear h hm ho
  generalize hz : (vlTruth (l.any (fun z : Int => z != 0)) : Int) = z at *
  clear hz
  go_enter Tryz.func29, Tryz.ntmps29
  go_wp2_with fail
  clear hW
  refine HM.out.mono ?_
  rintro e w2 ⟨rfl, b2⟩
  have Hc := hid (HV.out w2 b2)
  have B2 := hid b2
  clear HM HV b2
  go_wp2_with fail
  refine Hc.out.mono ?_
  rintro e w3 ⟨v3, rfl, hi, b3⟩
  obtain ⟨p, l0, c, rfl, hi⟩ := hi.shape
  have hpr := hid (hp.out.below (bel_go b3 B2.out))
  have hq := hpr.out.cells
  obtain ⟨_, _, q0, q1, q2, q3⟩ := hq
  have Hi := hid hi; have Hb := hid (bel_go (bel_go b3 B2.out) b0.out)
  clear hi b3 Hc
  go_wp2
  exact bodyPost_ret (v := .agg #[.bool (decide (z < 0)), .slice p l0 c]) (by simp [results, Tryz.results29, go_sem, q0, q1]) rfl ⟨_, rfl, Hi.out.stored hpr.out _ _ _ _, Below.stored Hb.out (by omega) _ _⟩
set_option maxRecDepth 100000 in
set_option maxHeartbeats 3200000 in
theorem mval_8 (g : Nat) (w : World) (syms : List Sy) (ts : List Tb5) (t : Tm) (l : List Int) (h : MeanAt w g syms ts t l) (ho : t.op = 8) (hl : 2 ≤ l.length) :
    Calls Tryz.prog 29 #[.pointer (some ⟨g, 0, none⟩)] w (RInt (vlTruth (decide (vlAt l 0 = vlAt l 1))) w) := by
  have b0 := below1 w (.cells #[.bool false, .slice none 0 0] 44)
  have hp : Pair (w.alloc (.cells #[.bool false, .slice none 0 0] 44)) w.heap.size 44 := Pair.new ..
  have hm := h.below b0
  generalize hW : w.alloc (.cells #[.bool false, .slice none 0 0] 44) = W at *
  have HM := hid (maker_8 g W syms ts t l hm ho)
  have HV := hid (fun w' (hb : Below W.heap.size W w') => mequal_any g w' syms ts t l (hm.below hb) hl)
  have hp := hid hp; have b0 := hid b0
  clear h hm ho
  generalize hz : (vlTruth (decide (vlAt l 0 = vlAt l 1)) : Int) = z at *
  clear hz
  go_enter Tryz.func29, Tryz.ntmps29
  go_wp2_with fail
  clear hW
  refine HM.out.mono ?_
  rintro e w2 ⟨rfl, b2⟩
  have Hc := hid (HV.out w2 b2)
  have B2 := hid b2
  clear HM HV b2
  go_wp2_with fail
  refine Hc.out.mono ?_
  rintro e w3 ⟨v3, rfl, hi, b3⟩
  obtain ⟨p, l0, c, rfl, hi⟩ := hi.shape
  have hpr := hid (hp.out.below (bel_go b3 B2.out))
  have hq := hpr.out.cells
  obtain ⟨_, _, q0, q1, q2, q3⟩ := hq
  have Hi := hid hi; have Hb := hid (bel_go (bel_go b3 B2.out) b0.out)
  clear hi b3 Hc
  go_wp2
  exact bodyPost_ret (v := .agg #[.bool (decide (z < 0)), .slice p l0 c]) (by simp [results, Tryz.results29, go_sem, q0, q1]) rfl ⟨_, rfl, Hi.out.stored hpr.out _ _ _ _, Below.stored Hb.out (by omega) _ _⟩
set_option maxRecDepth 100000 in
set_option maxHeartbeats 3200000 in
theorem mval_9 (g : Nat) (w : World) (syms : List Sy) (ts : List Tb5) (t : Tm) (l : List Int) (h : MeanAt w g syms ts t l) (ho : t.op = 9) (hl : 3 ≤ l.length) :
    Calls Tryz.prog 29 #[.pointer (some ⟨g, 0, none⟩)] w (RInt (if vlAt l 0 ≠ 0 then vlAt l 1 else vlAt l 2) w) := by
  have b0 := below1 w (.cells #[.bool false, .slice none 0 0] 44)
  have hp : Pair (w.alloc (.cells #[.bool false, .slice none 0 0] 44)) w.heap.size 44 := Pair.new ..
  have hm := h.below b0
  generalize hW : w.alloc (.cells #[.bool false, .slice none 0 0] 44) = W at *
  have HM := hid (maker_9 g W syms ts t l hm ho)
  have HV := hid (fun w' (hb : Below W.heap.size W w') => mchosen_any g w' syms ts t l (hm.below hb) hl)
  have hp := hid hp; have b0 := hid b0
  clear h hm ho
  generalize hz : (if vlAt l 0 ≠ 0 then vlAt l 1 else vlAt l 2 : Int) = z at *
  clear hz
  go_enter Tryz.func29, Tryz.ntmps29
  go_wp2_with fail
  clear hW
  refine HM.out.mono ?_
  rintro e w2 ⟨rfl, b2⟩
  have Hc := hid (HV.out w2 b2)
  have B2 := hid b2
  clear HM HV b2
  go_wp2_with fail
  refine Hc.out.mono ?_
  rintro e w3 ⟨v3, rfl, hi, b3⟩
  obtain ⟨p, l0, c, rfl, hi⟩ := hi.shape
  have hpr := hid (hp.out.below (bel_go b3 B2.out))
  have hq := hpr.out.cells
  obtain ⟨_, _, q0, q1, q2, q3⟩ := hq
  have Hi := hid hi; have Hb := hid (bel_go (bel_go b3 B2.out) b0.out)
  clear hi b3 Hc
  go_wp2
  exact bodyPost_ret (v := .agg #[.bool (decide (z < 0)), .slice p l0 c]) (by simp [results, Tryz.results29, go_sem, q0, q1]) rfl ⟨_, rfl, Hi.out.stored hpr.out _ _ _ _, Below.stored Hb.out (by omega) _ _⟩
set_option maxRecDepth 100000 in
set_option maxHeartbeats 3200000 in
theorem mval_10 (g : Nat) (w : World) (syms : List Sy) (ts : List Tb5) (t : Tm) (l : List Int) (h : MeanAt w g syms ts t l) (ho : t.op = 10) (hl : 2 ≤ l.length) :
    Calls Tryz.prog 29 #[.pointer (some ⟨g, 0, none⟩)] w (RInt (vlTruth (decide (vlAt l 0 = vlAt l 1))) w) := by
  have b0 := below1 w (.cells #[.bool false, .slice none 0 0] 44)
  have hp : Pair (w.alloc (.cells #[.bool false, .slice none 0 0] 44)) w.heap.size 44 := Pair.new ..
  have hm := h.below b0
  generalize hW : w.alloc (.cells #[.bool false, .slice none 0 0] 44) = W at *
  have HM := hid (maker_10 g W syms ts t l hm ho)
  have HV := hid (fun w' (hb : Below W.heap.size W w') => mequal_any g w' syms ts t l (hm.below hb) hl)
  have hp := hid hp; have b0 := hid b0
  clear h hm ho
  generalize hz : (vlTruth (decide (vlAt l 0 = vlAt l 1)) : Int) = z at *
  clear hz
  go_enter Tryz.func29, Tryz.ntmps29
  go_wp2_with fail
  clear hW
  refine HM.out.mono ?_
  rintro e w2 ⟨rfl, b2⟩
  have Hc := hid (HV.out w2 b2)
  have B2 := hid b2
  clear HM HV b2
  go_wp2_with fail
  refine Hc.out.mono ?_
  rintro e w3 ⟨v3, rfl, hi, b3⟩
  obtain ⟨p, l0, c, rfl, hi⟩ := hi.shape
  have hpr := hid (hp.out.below (bel_go b3 B2.out))
  have hq := hpr.out.cells
  obtain ⟨_, _, q0, q1, q2, q3⟩ := hq
  have Hi := hid hi; have Hb := hid (bel_go (bel_go b3 B2.out) b0.out)
  clear hi b3 Hc
  go_wp2
  exact bodyPost_ret (v := .agg #[.bool (decide (z < 0)), .slice p l0 c]) (by simp [results, Tryz.results29, go_sem, q0, q1]) rfl ⟨_, rfl, Hi.out.stored hpr.out _ _ _ _, Below.stored Hb.out (by omega) _ _⟩
set_option maxRecDepth 100000 in
set_option maxHeartbeats 3200000 in
theorem mval_11 (g : Nat) (w : World) (syms : List Sy) (ts : List Tb5) (t : Tm) (l : List Int) (h : MeanAt w g syms ts t l) (ho : t.op = 11) (hl : 2 ≤ l.length) :
    Calls Tryz.prog 29 #[.pointer (some ⟨g, 0, none⟩)] w (RInt (vlTruth (decide (vlAt l 0 ≤ vlAt l 1))) w) := by
  have b0 := below1 w (.cells #[.bool false, .slice none 0 0] 44)
  have hp : Pair (w.alloc (.cells #[.bool false, .slice none 0 0] 44)) w.heap.size 44 := Pair.new ..
  have hm := h.below b0
  generalize hW : w.alloc (.cells #[.bool false, .slice none 0 0] 44) = W at *
  have HM := hid (maker_11 g W syms ts t l hm ho)
  have HV := hid (fun w' (hb : Below W.heap.size W w') => matMost_any g w' syms ts t l (hm.below hb) hl)
  have hp := hid hp; have b0 := hid b0
  clear h hm ho
  generalize hz : (vlTruth (decide (vlAt l 0 ≤ vlAt l 1)) : Int) = z at *
  clear hz
  go_enter Tryz.func29, Tryz.ntmps29
  go_wp2_with fail
  clear hW
  refine HM.out.mono ?_
  rintro e w2 ⟨rfl, b2⟩
  have Hc := hid (HV.out w2 b2)
  have B2 := hid b2
  clear HM HV b2
  go_wp2_with fail
  refine Hc.out.mono ?_
  rintro e w3 ⟨v3, rfl, hi, b3⟩
  obtain ⟨p, l0, c, rfl, hi⟩ := hi.shape
  have hpr := hid (hp.out.below (bel_go b3 B2.out))
  have hq := hpr.out.cells
  obtain ⟨_, _, q0, q1, q2, q3⟩ := hq
  have Hi := hid hi; have Hb := hid (bel_go (bel_go b3 B2.out) b0.out)
  clear hi b3 Hc
  go_wp2
  exact bodyPost_ret (v := .agg #[.bool (decide (z < 0)), .slice p l0 c]) (by simp [results, Tryz.results29, go_sem, q0, q1]) rfl ⟨_, rfl, Hi.out.stored hpr.out _ _ _ _, Below.stored Hb.out (by omega) _ _⟩
set_option maxRecDepth 100000 in
set_option maxHeartbeats 3200000 in
theorem mval_12 (g : Nat) (w : World) (syms : List Sy) (ts : List Tb5) (t : Tm) (l : List Int) (h : MeanAt w g syms ts t l) (ho : t.op = 12) (hs : ∀ k, k ≤ l.length → sz Big.W (vlSum (l.take k)).natAbs ≤ 549755813888) :
    Calls Tryz.prog 29 #[.pointer (some ⟨g, 0, none⟩)] w (RInt (vlSum l) w) := by
  have b0 := below1 w (.cells #[.bool false, .slice none 0 0] 44)
  have hp : Pair (w.alloc (.cells #[.bool false, .slice none 0 0] 44)) w.heap.size 44 := Pair.new ..
  have hm := h.below b0
  generalize hW : w.alloc (.cells #[.bool false, .slice none 0 0] 44) = W at *
  have HM := hid (maker_12 g W syms ts t l hm ho)
  have HV := hid (fun w' (hb : Below W.heap.size W w') => msum_any g w' syms ts t l (hm.below hb) hs)
  have hp := hid hp; have b0 := hid b0
  clear h hm ho
  generalize hz : (vlSum l : Int) = z at *
  clear hz
  go_enter Tryz.func29, Tryz.ntmps29
  go_wp2_with fail
  clear hW
  refine HM.out.mono ?_
  rintro e w2 ⟨rfl, b2⟩
  have Hc := hid (HV.out w2 b2)
  have B2 := hid b2
  clear HM HV b2
  go_wp2_with fail
  refine Hc.out.mono ?_
  rintro e w3 ⟨v3, rfl, hi, b3⟩
  obtain ⟨p, l0, c, rfl, hi⟩ := hi.shape
  have hpr := hid (hp.out.below (bel_go b3 B2.out))
  have hq := hpr.out.cells
  obtain ⟨_, _, q0, q1, q2, q3⟩ := hq
  have Hi := hid hi; have Hb := hid (bel_go (bel_go b3 B2.out) b0.out)
  clear hi b3 Hc
  go_wp2
  exact bodyPost_ret (v := .agg #[.bool (decide (z < 0)), .slice p l0 c]) (by simp [results, Tryz.results29, go_sem, q0, q1]) rfl ⟨_, rfl, Hi.out.stored hpr.out _ _ _ _, Below.stored Hb.out (by omega) _ _⟩
set_option maxRecDepth 100000 in
set_option maxHeartbeats 3200000 in
theorem mval_13 (g : Nat) (w : World) (syms : List Sy) (ts : List Tb5) (t : Tm) (l : List Int) (h : MeanAt w g syms ts t l) (ho : t.op = 13) (hl : 1 ≤ l.length) (hs0 : sz Big.W t.num.natAbs ≤ 549755813888) (hs1 : ∀ z ∈ l, sz Big.W z.natAbs ≤ 549755813888) :
    Calls Tryz.prog 29 #[.pointer (some ⟨g, 0, none⟩)] w (RInt (t.num * vlAt l 0) w) := by
  have b0 := below1 w (.cells #[.bool false, .slice none 0 0] 44)
  have hp : Pair (w.alloc (.cells #[.bool false, .slice none 0 0] 44)) w.heap.size 44 := Pair.new ..
  have hm := h.below b0
  generalize hW : w.alloc (.cells #[.bool false, .slice none 0 0] 44) = W at *
  have HM := hid (maker_13 g W syms ts t l hm ho)
  have HV := hid (fun w' (hb : Below W.heap.size W w') => mproduct_any g w' syms ts t l (hm.below hb) hl hs0 hs1)
  have hp := hid hp; have b0 := hid b0
  clear h hm ho
  generalize hz : (t.num * vlAt l 0 : Int) = z at *
  clear hz
  go_enter Tryz.func29, Tryz.ntmps29
  go_wp2_with fail
  clear hW
  refine HM.out.mono ?_
  rintro e w2 ⟨rfl, b2⟩
  have Hc := hid (HV.out w2 b2)
  have B2 := hid b2
  clear HM HV b2
  go_wp2_with fail
  refine Hc.out.mono ?_
  rintro e w3 ⟨v3, rfl, hi, b3⟩
  obtain ⟨p, l0, c, rfl, hi⟩ := hi.shape
  have hpr := hid (hp.out.below (bel_go b3 B2.out))
  have hq := hpr.out.cells
  obtain ⟨_, _, q0, q1, q2, q3⟩ := hq
  have Hi := hid hi; have Hb := hid (bel_go (bel_go b3 B2.out) b0.out)
  clear hi b3 Hc
  go_wp2
  exact bodyPost_ret (v := .agg #[.bool (decide (z < 0)), .slice p l0 c]) (by simp [results, Tryz.results29, go_sem, q0, q1]) rfl ⟨_, rfl, Hi.out.stored hpr.out _ _ _ _, Below.stored Hb.out (by omega) _ _⟩
/-- what a term must bring, that its value is what its Op says -/
structure VlFit (syms : List Sy) (ts : List Tb5) (t : Tm) (l : List Int) : Prop where
  op : 1 ≤ t.op ∧ t.op ≤ 13
  sym : t.op = 4 → 0 ≤ t.sym ∧ t.sym < syms.length ∧ t.sym < ts.length
  one : t.op = 5 ∨ t.op = 13 → 1 ≤ l.length
  two : t.op = 8 ∨ t.op = 10 ∨ t.op = 11 → 2 ≤ l.length
  three : t.op = 9 → 3 ≤ l.length
  sums : t.op = 12 → ∀ k, k ≤ l.length → sz Big.W (vlSum (l.take k)).natAbs ≤ 549755813888
  num : sz Big.W t.num.natAbs ≤ 549755813888
  parts : ∀ z ∈ l, sz Big.W z.natAbs ≤ 549755813888
theorem value_any (g : Nat) (w : World) (syms : List Sy) (ts : List Tb5) (t : Tm) (l : List Int) (h : MeanAt w g syms ts t l) (hf : VlFit syms ts t l) :
    Calls Tryz.prog 29 #[.pointer (some ⟨g, 0, none⟩)] w (RInt (vlOp syms ts t l) w) := by
  have ho := hf.op
  have hc : t.op = 1 ∨ t.op = 2 ∨ t.op = 3 ∨ t.op = 4 ∨ t.op = 5 ∨ t.op = 6 ∨ t.op = 7 ∨ t.op = 8 ∨ t.op = 9 ∨ t.op = 10 ∨ t.op = 11 ∨ t.op = 12 ∨ t.op = 13 := by omega
  unfold vlOp
  rcases hc with hc | hc | hc | hc | hc | hc | hc | hc | hc | hc | hc | hc | hc
  · have hv := mval_1 g w syms ts t l h hc
    simpa [hc] using hv
  · have hv := mval_2 g w syms ts t l h hc
    simpa [hc] using hv
  · have hv := mval_3 g w syms ts t l h hc
    simpa [hc] using hv
  · obtain ⟨k, hk⟩ : ∃ k : Nat, t.sym = (k : Nat) := ⟨t.sym.toNat, by have := (hf.sym hc).1; omega⟩
    have hs : k < syms.length := by have := (hf.sym hc).2.1; omega
    have ht : k < ts.length := by have := (hf.sym hc).2.2; omega
    have he : vlTell ((syms[t.sym.toNat]?.getD ⟨[], 0, 0⟩).sort) (vlTabAt ts t.sym) l = vlTell (syms[k].sort) ts[k] l := by
      unfold vlTabAt; rw [hk]; simp [hs, ht]
    simp only [hc]
    rw [show (RInt _ w : Ending → World → Prop) = RInt (vlTell (syms[k].sort) ts[k] l) w from by simp [he]]
    exact mval_4 g w syms ts t l h hc k hk hs ht
  · have hv := mval_5 g w syms ts t l h hc (hf.one (.inl hc))
    simpa [hc] using hv
  · have hv := mval_6 g w syms ts t l h hc
    simpa [hc] using hv
  · have hv := mval_7 g w syms ts t l h hc
    simpa [hc] using hv
  · have hv := mval_8 g w syms ts t l h hc (hf.two (by omega))
    simpa [hc] using hv
  · have hv := mval_9 g w syms ts t l h hc (hf.three hc)
    simpa [hc] using hv
  · have hv := mval_10 g w syms ts t l h hc (hf.two (by omega))
    simpa [hc] using hv
  · have hv := mval_11 g w syms ts t l h hc (hf.two (by omega))
    simpa [hc] using hv
  · have hv := mval_12 g w syms ts t l h hc (hf.sums hc)
    simpa [hc] using hv
  · have hv := mval_13 g w syms ts t l h hc (hf.one (.inr hc)) hf.num hf.parts
    simpa [hc] using hv
end Go.Proofs.YtckkpolikdnilaaGreatDoor
/- value.Eval where it answers. -/
namespace Go.Proofs.YtckkpolikdnilaaGreatDoor
open Go.RowKit Big Go.WideMaps

theorem made_noWord (n : Nat) : (madeCells (Value.agg #[.bool false, .slice none 0 0]).cells n).all noWord = true := by
  rw [Array.all_eq_true']
  intro x hx
  simp only [madeCells, Array.mem_map] at hx
  obtain ⟨i, -, rfl⟩ := hx
  have h : i % 2 < 2 := Nat.mod_lt _ (by omega)
  have e : ∀ j, j < 2 → noWord ((Value.agg #[.bool false, .slice none 0 0]).cells[j]!) = true := by
    intro j hj
    have : j = 0 ∨ j = 1 := by omega
    rcases this with rfl | rfl <;> rfl
  exact e _ h
theorem RowQ.made (w : World) (L : Nat) (hL : L ≤ 1048576) :
    (Instr.makeSlice 32 (.int .i64 0) (.int .i64 (L : Nat))).run Tryz.prog w = .ok (.slice (some ⟨w.heap.size, 0, none⟩) 0 L) (w.alloc (.cells (madeCells (Value.agg #[.bool false, .slice none 0 0]).cells (L * 2)) 44)) ∧
      RowQ (w.alloc (.cells (madeCells (Value.agg #[.bool false, .slice none 0 0]).cells (L * 2)) 44)) w.heap.size 0 L [] := by
  obtain ⟨i0, hi, hz0, hz1, hz2⟩ := info_parts infoNum
  have hr := run_make (P := Tryz.prog) w 32 44 i0 _ Tryz.underlying32 hi hz0 .i64 .i64 0 (L : Nat) (Int.le_refl _) (by omega) (by rw [hz2]; omega) (by omega)
  rw [hz1] at hr
  refine ⟨by simpa using hr, _, heap_alloc_new w _, size_madeCells _ _, by simp, rfl, made_noWord _, Nat.zero_le _, by simp [maxLen]; omega⟩
theorem RowQ.in {w : World} {g n L : Nat} {cs : List Value} {l : List Int} (h : RowQ w g n L cs) (hc : VlCells w l cs) (hn : l.length = n) : NumsIn w (.slice (some ⟨g, 0, none⟩) n L) l := by
  subst hn
  obtain ⟨cur, h0, h1, h2, h3, -, h5, h6⟩ := h
  refine ⟨_, L, rfl, h5, h6, by simp, fun _ => ⟨g, 0, rfl, (Array.getElem?_eq_some_iff.1 h0).1, fun i hi => ?_⟩⟩
  obtain ⟨n, s, e0, e1, hr⟩ := hc.at i hi
  have a : ∀ j, j < l.length * 2 → w.cell? ⟨g, j, none⟩ = cs[j]? := by
    intro j hj
    rw [cell_of_row w g j _ _ (0, 0) h0, ← h2, List.getElem?_take_of_lt hj, Array.getElem?_toList]
  refine ⟨n, s, ?_, ?_, hr⟩
  · rw [Nat.zero_add, a _ (by omega), e0]
  · rw [Nat.zero_add, a _ (by omega), e1]
/-- the cells of a row of told numbers -/
def TCells (w : World) : List Int → List Value → Prop
  | [], cs => cs = []
  | z :: l, cs => ∃ s r, cs = .bool (decide (z < 0)) :: s :: r ∧ IntAt w (.agg #[.bool (decide (z < 0)), s]) z ∧ TCells w l r
theorem TCells.below {w w' : World} (hb : Below w.heap.size w w') : ∀ {l : List Int} {cs : List Value}, TCells w l cs → TCells w' l cs
  | [], _, h => h
  | _ :: _, _, ⟨s, r, e, h, hr⟩ => ⟨s, r, e, h.below hb, TCells.below hb hr⟩
theorem TCells.snoc {w : World} {s : Value} {z : Int} (h : IntAt w (.agg #[.bool (decide (z < 0)), s]) z) : ∀ {l : List Int} {cs : List Value}, TCells w l cs → TCells w (l ++ [z]) (cs ++ [.bool (decide (z < 0)), s])
  | [], _, e => by cases e; exact ⟨s, [], rfl, h, rfl⟩
  | _ :: _, _, ⟨s', r, e, h', hr⟩ => by subst e; exact ⟨s', r ++ [.bool (decide (z < 0)), s], rfl, h', TCells.snoc h hr⟩
theorem TCells.at {w : World} : ∀ {l : List Int} {cs : List Value}, TCells w l cs → ∀ i (hi : i < l.length), ∃ s, cs[i * 2]? = some (.bool (decide (l[i] < 0))) ∧ cs[i * 2 + 1]? = some s ∧ IntAt w (.agg #[.bool (decide (l[i] < 0)), s]) l[i]
  | _ :: l, _, ⟨s, r, e, h, hr⟩, 0, _ => by subst e; exact ⟨s, rfl, rfl, h⟩
  | _ :: l, _, ⟨s, r, e, h, hr⟩, i + 1, hi => by
    subst e
    obtain ⟨s', h1, h2, h3⟩ := TCells.at hr i (by simpa using hi)
    refine ⟨s', ?_, ?_, by simpa using h3⟩
    · rw [show (i + 1) * 2 = i * 2 + 1 + 1 from by omega]; simpa using h1
    · rw [show (i + 1) * 2 + 1 = i * 2 + 1 + 1 + 1 from by omega]; simpa using h2
theorem IntAt.offQ {w w' : World} {g n L : Nat} {cs : List Value} {v : Value} {z : Int} (h : IntAt w v z) (hq : RowQ w g n L cs) (hz : w.heap.size ≤ w'.heap.size) (hb : ∀ k, k < w.heap.size → k ≠ g → w'.heap[k]? = w.heap[k]?) : IntAt w' v z := by
  obtain ⟨s, hs, ha⟩ := h
  exact ⟨s, hs, ha.offQ hq hz hb⟩
theorem TCells.offQ {w w' : World} {g n L : Nat} {cs0 : List Value} (hq : RowQ w g n L cs0) (hz : w.heap.size ≤ w'.heap.size) (hb : ∀ k, k < w.heap.size → k ≠ g → w'.heap[k]? = w.heap[k]?) : ∀ {l : List Int} {cs : List Value}, TCells w l cs → TCells w' l cs
  | [], _, h => h
  | _ :: _, _, ⟨s, r, e, h, hr⟩ => ⟨s, r, e, h.offQ hq hz hb, TCells.offQ hq hz hb hr⟩
/-- a slice that reads as a list of told numbers -/
def NumsTold (w : World) (v : Value) (l : List Int) : Prop :=
  ∃ p cap, v = .slice p l.length cap ∧ l.length ≤ cap ∧ cap ≤ maxLen ∧ (p = none → cap = 0) ∧
    (0 < l.length → ∃ b off, p = some ⟨b, off, none⟩ ∧ b < w.heap.size ∧ ∀ i (h : i < l.length), ∃ s, w.cell? ⟨b, off + i * 2, none⟩ = some (.bool (decide (l[i] < 0))) ∧ w.cell? ⟨b, off + i * 2 + 1, none⟩ = some s ∧ IntAt w (.agg #[.bool (decide (l[i] < 0)), s]) l[i])
theorem NumsTold.nil (w : World) : NumsTold w (.slice none 0 0) [] := ⟨none, 0, rfl, by simp, by simp [maxLen], fun _ => rfl, fun h => absurd h (by simp)⟩
theorem NumsTold.below {w w' : World} {v : Value} {l : List Int} (h : NumsTold w v l) (hb : Below w.heap.size w w') : NumsTold w' v l := by
  obtain ⟨p, cap, hv, h1, h2, h3, h4⟩ := h
  refine ⟨p, cap, hv, h1, h2, h3, fun hp => ?_⟩
  obtain ⟨b, off, h5, h6, h7⟩ := h4 hp
  refine ⟨b, off, h5, Nat.lt_of_lt_of_le h6 hb.size, fun i hi => ?_⟩
  obtain ⟨s, k1, k2, k3⟩ := h7 i hi
  exact ⟨s, (hb.cell (p := ⟨b, off + i * 2, none⟩) h6).trans k1, (hb.cell (p := ⟨b, off + i * 2 + 1, none⟩) h6).trans k2, k3.below hb⟩
theorem RowQ.told {w : World} {g n L : Nat} {cs : List Value} {l : List Int} (h : RowQ w g n L cs) (hc : TCells w l cs) (hn : l.length = n) : NumsTold w (.slice (some ⟨g, 0, none⟩) n L) l := by
  subst hn
  obtain ⟨cur, h0, h1, h2, h3, -, h5, h6⟩ := h
  refine ⟨_, L, rfl, h5, h6, by simp, fun _ => ⟨g, 0, rfl, (Array.getElem?_eq_some_iff.1 h0).1, fun i hi => ?_⟩⟩
  obtain ⟨s, e0, e1, hr⟩ := hc.at i hi
  have a : ∀ j, j < l.length * 2 → w.cell? ⟨g, j, none⟩ = cs[j]? := by
    intro j hj
    rw [cell_of_row w g j _ _ (0, 0) h0, ← h2, List.getElem?_take_of_lt hj, Array.getElem?_toList]
  refine ⟨s, ?_, ?_, hr⟩
  · rw [Nat.zero_add, a _ (by omega), e0]
  · rw [Nat.zero_add, a _ (by omega), e1]
end Go.Proofs.YtckkpolikdnilaaGreatDoor
/- value.Eval where it answers: the loop. -/
namespace Go.Proofs.YtckkpolikdnilaaGreatDoor
open Go.RowKit Big Go.WideMaps

theorem wpList_append_run {P : Program} {w : World} {ops : Array Oper} {rest : List Oper} {o : Oper} {a : Act} {Q : Exit → Act → World → Prop} (hgd : o.guard = none) (s x : Operand) (t : TypeId)
    (ho : o.op = .call { callee := .builtin .append, args := #[s, x], argTypes := #[t, t] }) {v vx v' : Value} {w' : World} (hs : a.eval s = v) (hx : a.eval x = vx)
    (hr : (Builtin.append_ #[t, t] o.type #[v, vx]).run P w = .ok v' w') (h : wpList P ops Q rest (a.put o.dst v') w') : wpList P ops Q (o :: rest) a w := by
  refine wpList_plain hgd fun K hK => ?_
  unfold Oper.wp execOp
  simp only [ho, resolve, invoke, builtin, Sem.run_bind, Sem.run_pure, Result.andThen_ok, List.map_toArray, List.map_cons, List.map_nil, hs, hx, hr]
  exact hK _ _ h
def RVals (l : List Int) (w : World) (e : Ending) (w' : World) : Prop := ∃ v, e = .returned (.tuple #[v, .int .i64 0]) ∧ NumsIn w' v l ∧ NumsTold w' v l ∧ Below w.heap.size w w'
set_option maxRecDepth 100000 in
set_option maxHeartbeats 3200000 in
theorem Eval_ok (vs vt vm : Value) (syms : List Sy) (terms : List Tm) (ts : List Tb5) (w : World) (htab : Tb w.heap.size w) (hs : SyIn w vs syms) (ht : TmsIn w vt terms) (hm : TabsIn w vm ts) (hn : ∀ s ∈ syms, s.name.length ≤ 281474976710656) (ha : ∀ t ∈ terms, t.args.length ≤ 1048576) (he : plCheck syms terms = 0) (hl : syms.length ≤ ts.length)
    (hL : terms.length ≤ 1048576)
    (hfit : ∀ k (hk : k < terms.length), VlFit syms ts terms[k] (vlParts terms[k] (vlEval syms ts (terms.take k) [])) ∧ (∀ a ∈ terms[k].args, 0 ≤ a ∧ a < k) ∧ sz Big.W (vlOp syms ts terms[k] (vlParts terms[k] (vlEval syms ts (terms.take k) []))).natAbs ≤ 1099511627776) :
    Calls Tryz.prog 11 #[.agg #[vs, vt], .agg #[vm]] w (RVals (vlEval syms ts terms []) w) := by
  have Hs := hid hs; have Ht := hid ht; have Hm := hid hm; have Hfit := hid hfit; have Ha := hid ha
  obtain ⟨ps, cps, rfl, -, -, -, -⟩ := hs
  obtain ⟨pt, cpt, rfl, j1, j2, -, j4⟩ := ht
  obtain ⟨pm, cpm, rfl, -, -, -, -⟩ := hm
  have J4 := hid j4
  unfold maxLen at j2
  have b0 : Below w.heap.size w ((w.alloc (.cells #[.slice ps syms.length cps, .slice pt terms.length cpt] 25)).alloc (.cells #[.slice pm ts.length cpm] 28)) := (below1 w _).alloc (by simp) _
  have e0 : ((w.alloc (.cells #[.slice ps syms.length cps, .slice pt terms.length cpt] 25)).alloc (.cells #[.slice pm ts.length cpm] 28)).heap[w.heap.size]? = some (.cells #[.slice ps syms.length cps, .slice pt terms.length cpt] 25 (0, 0)) := alloc_keep (alloc_at _ _ _ rfl)
  have e1 : ((w.alloc (.cells #[.slice ps syms.length cps, .slice pt terms.length cpt] 25)).alloc (.cells #[.slice pm ts.length cpm] 28)).heap[w.heap.size + 1]? = some (.cells #[.slice pm ts.length cpm] 28 (0, 0)) := alloc_at _ _ _ (by rw [size_alloc])
  have HC := hid (Check_any _ _ _ syms terms _ (Nat.le_refl _) (tab_later htab b0) (Hs.out.below b0) (Ht.out.below b0) hn (fun t h => by have := ha t h; omega))
  rw [he] at HC
  have z0 : ((w.alloc (.cells #[.slice ps syms.length cps, .slice pt terms.length cpt] 25)).alloc (.cells #[.slice pm ts.length cpm] 28)).heap.size = w.heap.size + 1 + 1 := by rw [size_alloc, size_alloc]
  have B0 := hid b0; have E0 := hid e0; have E1 := hid e1; have Z0 := hid z0
  have t2 : decide (ts.length < syms.length) = false := by simp; omega
  obtain ⟨L, hLL⟩ : ∃ L, L = terms.length := ⟨_, rfl⟩
  have HLL := hid hLL
  have hL' : L ≤ 1048576 := by rw [hLL]; exact hL
  rw [← hLL] at B0 E0 E1 HC Z0 ⊢
  have Hmk := hid (fun W => RowQ.made W L hL')
  clear hn htab b0 he e0 e1 z0 hl j4 hLL ha hfit hL j1
  generalize hS : syms.length = L0 at *
  generalize hT : ts.length = L2 at *
  clear hS hT
  go_enter Tryz.func11, Tryz.ntmps11
  go_wp2_with fail
  refine HC.out.mono ?_
  rintro e w1 ⟨rfl, b1⟩
  have x0 := two_cells ((b1.block w.heap.size (by have := Z0.out; omega)).trans E0.out)
  have x1 : w1.cell? ⟨w.heap.size + 1, 0, none⟩ = some (.slice pm L2 cpm) := by
    have h := (b1.block (w.heap.size + 1) (by have := Z0.out; omega)).trans E1.out
    simp [World.cell?, h]
  obtain ⟨x0, x2, -, -⟩ := x0
  have zw : Hid (w.heap.size + 1 < w1.heap.size) := hid (by have := b1.size; have := Z0.out; omega)
  have B1 := hid (bel_go b1 B0.out)
  clear HC b1 B0 E0 E1 Z0
  have hmk := (Hmk.out w1).1
  have HQ := hid (Hmk.out w1).2
  have b2 := below1 w1 (.cells (madeCells (Value.agg #[.bool false, .slice none 0 0]).cells (L * 2)) 44)
  generalize hW : w1.alloc (.cells (madeCells (Value.agg #[.bool false, .slice none 0 0]).cells (L * 2)) 44) = W at *
  have x0' := (b2.cell (p := ⟨w.heap.size, 0, none⟩) (by have := zw.out; show w.heap.size < _; omega)).trans x0
  have x1' := (b2.cell (p := ⟨w.heap.size + 1, 0, none⟩) zw.out).trans x1
  have x2' := (b2.cell (p := ⟨w.heap.size, 1, none⟩) (by have := zw.out; show w.heap.size < _; omega)).trans x2
  have B2 := hid (bel_go b2 B1.out)
  obtain ⟨gq, hgq⟩ : ∃ gq, gq = w1.heap.size := ⟨_, rfl⟩
  rw [← hgq] at HQ hmk zw
  have Hzq : Hid (w.heap.size + 1 < gq) := zw
  clear b2 hW Hmk B1 hgq zw
  go_wp2_with fail
  go_loopw [7, 30] (fun o i wr => ∃ (k : Nat) (cs : List Value), k ≤ L ∧ i = .int .i64 (k : Nat) ∧ o = .slice (some ⟨gq, 0, none⟩) k L ∧ Hid (RowQ wr gq k L cs) ∧ Hid (VlCells wr (vlEval syms ts (terms.take k) []) cs) ∧ Hid (TCells wr (vlEval syms ts (terms.take k) []) cs) ∧ Hid (Below w.heap.size w wr) ∧ wr.cell? ⟨w.heap.size, 0, none⟩ = some (.slice ps L0 cps) ∧ wr.cell? ⟨w.heap.size + 1, 0, none⟩ = some (.slice pm L2 cpm)) (fun _ i _ => L - (intOf i).toNat)
  case atStart => exact ⟨0, [], Nat.zero_le _, rfl, rfl, HQ, hid rfl, hid rfl, B2, x0', x1'⟩
  case round =>
    obtain ⟨k, cs, hk, rfl, rfl, hQ, hC, hT, hB, y0, y1⟩ := hrel
    clear x0 x1 x2 x0' x1' x2' hmk HQ B2
    by_cases hlt : k < L
    · have hkt : k < terms.length := by rw [← HLL.out]; exact hlt
      obtain ⟨b, o, rfl, hb, hc⟩ := J4.out (by omega)
      obtain ⟨c0, c1, c2, c3, c4, k0, k1, k2, k3, k4, hr⟩ := hc k hkt
      obtain ⟨pa, ca, bb, pn, nn, cn, e, hA, hN⟩ := id hr
      injection e with e
      injection e with e
      injection e with f0 e
      injection e with f1 e
      injection e with f2 e
      injection e with f3 e
      injection e with f4 e
      subst f0 f1 f2 f3 f4
      clear e
      have k0 := (hB.out.cell (p := ⟨b, o + k * 5, none⟩) hb).trans k0
      have k1 := (hB.out.cell (p := ⟨b, o + k * 5 + 1, none⟩) hb).trans k1
      have k2 := (hB.out.cell (p := ⟨b, o + k * 5 + 2, none⟩) hb).trans k2
      have k3 := (hB.out.cell (p := ⟨b, o + k * 5 + 3, none⟩) hb).trans k3
      have k4 := (hB.out.cell (p := ⟨b, o + k * 5 + 4, none⟩) hb).trans k4
      have hin := hid (hQ.out.in hC.out (by rw [vlEval_len]; simp; omega))
      obtain ⟨hf, harg, hsz⟩ := Hfit.out k hkt
      have hal := Ha.out terms[k] (List.getElem_mem hkt)
      have HP := hid (fun w' (hb' : Below wr.heap.size wr w') => partsOf_any terms[k] _ _ (vlEval syms ts (terms.take k) []) w' (hr.below (bel_go hb' hB.out)) (hin.out.below hb') (fun a h => by have h2 := harg a h; rw [vlEval_len]; simp; omega) hal)
      have hf := hid hf; have hsz := hid hsz
      have b5 := below1 wr (.cells #[.int .i64 terms[k].op, .slice pa terms[k].args.length ca, .bool bb, .slice pn nn cn, .int .i64 terms[k].sym] 71)
      have n5 := heap_alloc_new wr (.cells #[.int .i64 terms[k].op, .slice pa terms[k].args.length ca, .bool bb, .slice pn nn cn, .int .i64 terms[k].sym] 71)
      have z5 := size_alloc wr (.cells #[.int .i64 terms[k].op, .slice pa terms[k].args.length ca, .bool bb, .slice pn nn cn, .int .i64 terms[k].sym] 71)
      generalize hW5 : wr.alloc (.cells #[.int .i64 terms[k].op, .slice pa terms[k].args.length ca, .bool bb, .slice pn nn cn, .int .i64 terms[k].sym] 71) = W5 at *
      have sq : w.heap.size + 1 < W5.heap.size := by have := hQ.out.lt; have := Hzq.out; omega
      have s2 : wr.heap.size < W5.heap.size := by omega
      have y0 := (b5.cell (p := ⟨w.heap.size, 0, none⟩) (by have := hQ.out.lt; have := Hzq.out; show w.heap.size < _; omega)).trans y0
      have y1 := (b5.cell (p := ⟨w.heap.size + 1, 0, none⟩) (by have := hQ.out.lt; have := Hzq.out; show w.heap.size + 1 < _; omega)).trans y1
      have tt : W5.cell? ⟨wr.heap.size, 0, none⟩ = some (.int .i64 terms[k].op) ∧ W5.cell? ⟨wr.heap.size, 1, none⟩ = some (.slice pa terms[k].args.length ca) ∧ W5.cell? ⟨wr.heap.size, 2, none⟩ = some (.bool bb) ∧ W5.cell? ⟨wr.heap.size, 3, none⟩ = some (.slice pn nn cn) ∧ W5.cell? ⟨wr.heap.size, 4, none⟩ = some (.int .i64 terms[k].sym) := by simp [World.cell?, n5]
      obtain ⟨t0, t1, t2', t3, t4⟩ := tt
      have B5 := hid b5
      have HP := hid (fun w' (hb' : Below W5.heap.size W5 w') => HP.out w' (b5.trans (hb'.mono b5.size)))
      have HN := hid hN
      clear hb hc hA hN harg hal n5 b5 hin hr
      go_wp2_with fail
      clear k0 k1 k2 k3 k4
      go_region_held3 (fun w' => w'.cell? ⟨w.heap.size, 0, none⟩ = some (.slice ps L0 cps) ∧ w'.cell? ⟨w.heap.size + 1, 0, none⟩ = some (.slice pm L2 cpm) ∧ w'.cell? ⟨wr.heap.size, 0, none⟩ = some (.int .i64 terms[k].op) ∧ w'.cell? ⟨wr.heap.size, 1, none⟩ = some (.slice pa terms[k].args.length ca) ∧ w'.cell? ⟨wr.heap.size, 2, none⟩ = some (.bool bb) ∧ w'.cell? ⟨wr.heap.size, 3, none⟩ = some (.slice pn nn cn) ∧ w'.cell? ⟨wr.heap.size, 4, none⟩ = some (.int .i64 terms[k].sym))
        (first | (go_split_ands; (try dsimp only); (repeat' apply And.intro) <;> first | assumption | exact Pair.drew ‹_› | exact Pair.below ‹_› hb9 | exact Pair.below ‹_› hb8 | exact Pair.below ‹_› hb7 | exact Pair.below ‹_› hb6 | exact Pair.below ‹_› hb5 | exact Pair.below ‹_› hb4 | exact Pair.below ‹_› hb3 | exact Pair.below ‹_› hb2 | exact Pair.below ‹_› hb1 | exact (hb9.cell (by first | omega | (simp; omega) | (simp; done))).trans ‹_› | exact (hb8.cell (by first | omega | (simp; omega) | (simp; done))).trans ‹_› | exact (hb7.cell (by first | omega | (simp; omega) | (simp; done))).trans ‹_› | exact (hb6.cell (by first | omega | (simp; omega) | (simp; done))).trans ‹_› | exact (hb5.cell (by first | omega | (simp; omega) | (simp; done))).trans ‹_› | exact (hb4.cell (by first | omega | (simp; omega) | (simp; done))).trans ‹_› | exact (hb3.cell (by first | omega | (simp; omega) | (simp; done))).trans ‹_› | exact (hb2.cell (by first | omega | (simp; omega) | (simp; done))).trans ‹_› | exact (hb1.cell (by first | omega | (simp; omega) | (simp; done))).trans ‹_› | exact Pair.set1 (Pair.set0 ‹_› _) _ _ _ | exact (cell_stored _ (by first | (dsimp only; omega) | (simp; done) | (simp; omega)) _ _).trans ‹_› | exact Pair.drew (Pair.below ‹_› (below1 _ _)) | exact Pair.below ‹_› (below1 _ _) | exact Pair.far ‹_› (by omega) hb1 | exact Pair.new .. | exact Pair.new1 .. | exact Pair.new2 .. | (go_keep; done)) | (go_keep; done))
        (first | (go_at_call 28; refine (HP.out _ ?_).mono ?_; (repeat (first | exact Below.refl _ _ | apply Below.drew)); rintro e w6 ⟨v6, rfl, ho6, hb1⟩; have hz1 : W5.heap.size ≤ w6.heap.size := (by have := hb1.size; simp at this; omega); have hi6 := ho6.in; obtain ⟨p6, c6, rfl, -⟩ := hi6))
      have b16 : Below W5.heap.size W5 w6 := ((Below.refl W5.heap.size W5).drew).trans hb1
      have b7 := below1 w6 (.cells #[.slice ps L0 cps, .slice pm L2 cpm, .int .i64 terms[k].op, .slice pa terms[k].args.length ca, .bool bb, .slice pn nn cn, .int .i64 terms[k].sym, .slice p6 (vlParts terms[k] (vlEval syms ts (List.take k terms) [])).length c6] 80)
      have n7 := heap_alloc_new w6 (.cells #[.slice ps L0 cps, .slice pm L2 cpm, .int .i64 terms[k].op, .slice pa terms[k].args.length ca, .bool bb, .slice pn nn cn, .int .i64 terms[k].sym, .slice p6 (vlParts terms[k] (vlEval syms ts (List.take k terms) [])).length c6] 80)
      generalize hW7 : w6.alloc (.cells #[.slice ps L0 cps, .slice pm L2 cpm, .int .i64 terms[k].op, .slice pa terms[k].args.length ca, .bool bb, .slice pn nn cn, .int .i64 terms[k].sym, .slice p6 (vlParts terms[k] (vlEval syms ts (List.take k terms) [])).length c6] 80) = W7 at *
      have b57 : Below W5.heap.size W5 W7 := b16.trans (b7.mono hz1)
      have bwr7 : Below wr.heap.size wr W7 := B5.out.trans (b57.mono B5.out.size)
      have bw7 : Below w.heap.size w W7 := bel_go bwr7 hB.out
      have hM : MeanAt W7 w6.heap.size syms ts terms[k] (vlParts terms[k] (vlEval syms ts (terms.take k) [])) := ⟨_, _, _, _, _, _, n7, Hs.out.below bw7, Hm.out.below bw7, HN.out.below bw7, (ho6.in).below b7⟩
      have HV := hid (value_any w6.heap.size W7 syms ts terms[k] _ hM hf.out)
      have y0 := (b57.cell (p := ⟨w.heap.size, 0, none⟩) (by show w.heap.size < _; omega)).trans y0
      have y1 := (b57.cell (p := ⟨w.heap.size + 1, 0, none⟩) sq).trans y1
      have HQ7 := hid (hQ.out.below bwr7); have HC7 := hid (hC.out.below bwr7); have HT7 := hid (hT.out.below bwr7); have HB7 := hid bw7
      have s7 : w.heap.size + 1 < W7.heap.size := by have := b57.size; omega
      have Hnext := hid (show vlEval syms ts (terms.take (k + 1)) [] = vlEval syms ts (terms.take k) [] ++ [vlOp syms ts terms[k] (vlParts terms[k] (vlEval syms ts (terms.take k) []))] from by rw [List.take_succ_eq_append_getElem hkt, vlEval_snoc])
      generalize vlOp syms ts terms[k] (vlParts terms[k] (vlEval syms ts (terms.take k) [])) = z at *
      clear hM bw7 bwr7 b57 n7 b7 b16 hz1 ho6 hb1 hW5 t0 t1 t2' t3 t4 s2 HP hQ hC hT hB B5 hW7 z5
      go_wp2_with fail
      refine HV.out.mono ?_
      rintro e w8 ⟨v8, rfl, i8, b8⟩
      obtain ⟨p8, l8, c8, rfl, i8⟩ := i8.shape
      have b9 := below1 w8 (.cells #[.bool (decide (z < 0)), .slice p8 l8 c8] 44)
      have n9 := heap_alloc_new w8 (.cells #[.bool (decide (z < 0)), .slice p8 l8 c8] 44)
      have hnews : ∀ j u, ([.bool (decide (z < 0)), .slice p8 l8 c8] : List Value)[j]? = some u → (w8.alloc (.cells #[.bool (decide (z < 0)), .slice p8 l8 c8] 44)).cell? ((⟨w8.heap.size, 0, none⟩ : Addr).add j) = some u := by
        intro j u hj
        rw [Go.WideShapes.add_plain, Nat.zero_add, cell_of_row _ _ _ _ _ _ n9]
        simpa using hj
      have b79 := bel_go b9 b8
      have HQ9 := HQ7.out.below b79
      obtain ⟨w10, hrun, hQ10, hz10, ho10, hg10⟩ := HQ9.push hlt (decide (z < 0)) p8 l8 c8 ⟨w8.heap.size, 0, none⟩ hnews
      have hgq := HQ7.out.lt
      have HC10 := hid (VlCells.offQ HQ9 (Nat.le_of_eq hz10.symm) (fun k _ hk => ho10 k hk) ((HC7.out.below b79).snoc ((i8.raw hsz.out).below b9)))
      have HT10 := hid (TCells.offQ HQ9 (Nat.le_of_eq hz10.symm) (fun k _ hk => ho10 k hk) ((HT7.out.below b79).snoc (i8.below b9)))
      have HB10 := hid ((bel_go b79 HB7.out).grown hg10 (by have := b79.size; omega) (fun g hg => by cases hg; have := Hzq.out; omega))
      have HQ10 := hid hQ10
      have y0 := (World.cell?_of_block (w := w8.alloc (.cells #[.bool (decide (z < 0)), .slice p8 l8 c8] 44)) (a := ⟨w.heap.size, 0, none⟩) (ho10 _ (by have := Hzq.out; show w.heap.size ≠ gq; omega))).trans ((b79.cell (p := ⟨w.heap.size, 0, none⟩) (by show w.heap.size < _; omega)).trans y0)
      have y1 := (World.cell?_of_block (w := w8.alloc (.cells #[.bool (decide (z < 0)), .slice p8 l8 c8] 44)) (a := ⟨w.heap.size + 1, 0, none⟩) (ho10 _ (by have := Hzq.out; show w.heap.size + 1 ≠ gq; omega))).trans ((b79.cell (p := ⟨w.heap.size + 1, 0, none⟩) s7).trans y1)
      clear hQ10 hz10 ho10 hg10 HQ9 b79 hnews n9 b9 i8 b8 HV
      go_wp2_with (at_builtin; refine wpList_append_run rfl _ _ 32 rfl rfl rfl hrun ?_)
      go_roundw
      case rel => exact ⟨k + 1, _, by omega, by go_num, rfl, HQ10, hid (by rw [Hnext.out]; exact HC10.out), hid (by rw [Hnext.out]; exact HT10.out), HB10, y0, y1⟩
      case measure => simp [intOf]; omega
    · obtain rfl : k = L := by omega
      have hin := hid (hQ.out.in hC.out (by rw [vlEval_len]; simp; have := HLL.out; omega))
      have hto := hid (hQ.out.told hT.out (by rw [vlEval_len]; simp; have := HLL.out; omega))
      have hfin : Hid (terms.take k = terms) := hid (by rw [HLL.out, List.take_length])
      go_wp2_with fail
      go_ret2
      exact ⟨_, rfl, by have := hin.out; rw [hfin.out] at this; exact this, by have := hto.out; rw [hfin.out] at this; exact this, hB.out⟩
end Go.Proofs.YtckkpolikdnilaaGreatDoor
/- value.Holds. -/
namespace Go.Proofs.YtckkpolikdnilaaGreatDoor
open Go.RowKit Big Go.WideMaps

def RHolds (b : Bool) (c : Int) (w : World) (e : Ending) (w' : World) : Prop := e = .returned (.tuple #[.bool b, .int .i64 c]) ∧ Below w.heap.size w w'
set_option maxRecDepth 100000 in
set_option maxHeartbeats 3200000 in
theorem Holds_out (vs vt vm : Value) (hv : ∃ p n c p' n' c' p2 n2 c2, vs = .slice p n c ∧ vt = .slice p' n' c' ∧ vm = .slice p2 n2 c2) (t : Int) (l : List Int) (w : World) (ht : t < 0 ∨ (l.length : Int) ≤ t) (h : ∀ w', Below w.heap.size w w' → Calls Tryz.prog 11 #[.agg #[vs, vt], .agg #[vm]] w' (RVals l w')) :
    Calls Tryz.prog 19 #[.agg #[vs, vt], .agg #[vm], .int .i64 t] w (RHolds false 1 w) := by
  obtain ⟨p, n, cc, p', n', c', p2, n2, c2, rfl, rfl, rfl⟩ := hv
  have b0 : Below w.heap.size w ((w.alloc (.cells #[.slice p n cc, .slice p' n' c'] 25)).alloc (.cells #[.slice p2 n2 c2] 28)) := (below1 w _).alloc (by simp) _
  have H := hid (h _ b0)
  have B0 := hid b0
  clear h b0
  by_cases h0 : t < 0
  · have t1 : decide (t < 0) = true := by simpa using h0
    go_enter Tryz.func19, Tryz.ntmps19
    go_wp2_with fail
    refine H.out.mono ?_
    rintro e w1 ⟨v1, rfl, hi, -, b1⟩
    obtain ⟨q, c, rfl, -⟩ := hi
    have B1 := hid (bel_go b1 B0.out)
    clear H b1
    go_wp2
    go_ret2
    exact ⟨rfl, B1.out⟩
  · have t1 : decide (t < 0) = false := by simpa using h0
    have t2 : (l.length : Int) ≤ t := by omega
    go_enter Tryz.func19, Tryz.ntmps19
    go_wp2_with fail
    refine H.out.mono ?_
    rintro e w1 ⟨v1, rfl, hi, -, b1⟩
    obtain ⟨q, c, rfl, -⟩ := hi
    have B1 := hid (bel_go b1 B0.out)
    clear H b1
    go_wp2
    go_ret2
    exact ⟨rfl, B1.out⟩
end Go.Proofs.YtckkpolikdnilaaGreatDoor
/- value.Holds of a term that is there. -/
namespace Go.Proofs.YtckkpolikdnilaaGreatDoor
open Go.RowKit Big Go.WideMaps

set_option maxRecDepth 100000 in
set_option maxHeartbeats 3200000 in
theorem Holds_in (vs vt vm : Value) (hvm : ∃ p2 n2 c2, vm = .slice p2 n2 c2) (syms : List Sy) (terms : List Tm) (σ : Nat → Int) (l : List Int) (k : Nat) (w : World) (hs : SyIn w vs syms) (ht : TmsIn w vt terms) (hσ : VlSorts syms terms σ) (hk : k < terms.length) (hl : l.length = terms.length)
    (h : ∀ w', Below w.heap.size w w' → Calls Tryz.prog 11 #[.agg #[vs, vt], .agg #[vm]] w' (RVals l w')) :
    Calls Tryz.prog 19 #[.agg #[vs, vt], .agg #[vm], .int .i64 (k : Nat)] w (RHolds (σ k == 1 && l[k] != 0) (if σ k = 1 then 0 else 8) w) := by
  have Hs := hid hs; have Ht := hid ht; have Hσ := hid hσ; have Hk := hid hk
  obtain ⟨ps, cps, rfl, -, -, -, -⟩ := hs
  obtain ⟨pt, cpt, rfl, -, -, -, -⟩ := ht
  obtain ⟨pm, nm, cpm, rfl⟩ := hvm
  have b0 : Below w.heap.size w ((w.alloc (.cells #[.slice ps syms.length cps, .slice pt terms.length cpt] 25)).alloc (.cells #[.slice pm nm cpm] 28)) := (below1 w _).alloc (by simp) _
  have e0 : ((w.alloc (.cells #[.slice ps syms.length cps, .slice pt terms.length cpt] 25)).alloc (.cells #[.slice pm nm cpm] 28)).heap[w.heap.size]? = some (.cells #[.slice ps syms.length cps, .slice pt terms.length cpt] 25 (0, 0)) := alloc_keep (alloc_at _ _ _ rfl)
  have z0 : w.heap.size < ((w.alloc (.cells #[.slice ps syms.length cps, .slice pt terms.length cpt] 25)).alloc (.cells #[.slice pm nm cpm] 28)).heap.size := by rw [size_alloc, size_alloc]; omega
  have H := hid (h _ b0)
  have B0 := hid b0; have E0 := hid e0; have Z0 := hid z0
  have t1 : ¬ ((k : Int) < 0) := by omega
  have t2 : (k : Int) < (l.length : Int) := by omega
  have t3 : k < l.length := by omega
  obtain ⟨L, hL⟩ : ∃ L, L = l.length := ⟨_, rfl⟩
  have HL := hid hL
  have hb : ∀ w', Below w.heap.size w w' → Calls Tryz.prog 43 #[.agg #[.slice ps syms.length cps, .slice pt terms.length cpt], .int .i64 (k : Nat)] w' (RBool (σ k == 1) w') := fun w' hb => isCondition_any _ _ syms terms σ k w' (Hs.out.below hb) (Ht.out.below hb) Hσ.out Hk.out
  have HI := hid hb
  obtain ⟨x, hx⟩ : ∃ x, x = l[k] := ⟨_, rfl⟩
  have Hx := hid hx
  rw [← hx]
  generalize hq : (σ k == 1) = q at *
  have hif : (if σ k = 1 then (0 : Int) else 8) = if q then 0 else 8 := by rw [← hq]; by_cases e : σ k = 1 <;> simp [e]
  rw [hif]
  clear h b0 e0 z0 hk hl hb hσ hx hq hif
  generalize syms.length = L0 at *
  generalize terms.length = L1 at *
  cases q
  · show Calls _ _ _ _ (RHolds false 8 w)
    go_enter Tryz.func19, Tryz.ntmps19
    go_wp2_with fail
    refine H.out.mono ?_
    rintro e w1 ⟨v1, rfl, hi, -, b1⟩
    obtain ⟨q, c, rfl, -⟩ := hi
    have b2 := bel_go b1 B0.out
    have x0 := two_cells ((b1.block w.heap.size Z0.out).trans E0.out)
    obtain ⟨x0, x1, -, -⟩ := x0
    have B2 := hid b2
    clear H b1 b2
    go_wp2_with fail
    refine (HI.out _ B2.out).mono ?_
    rintro e w2 ⟨rfl, b3⟩
    have B3 := hid (bel_go b3 B2.out)
    clear HI b3
    go_wp2
    go_ret2
    exact ⟨rfl, B3.out⟩
  · show Calls _ _ _ _ (RHolds (true && x != 0) 0 w)
    rw [Bool.true_and]
    go_enter Tryz.func19, Tryz.ntmps19
    go_wp2_with fail
    refine H.out.mono ?_
    rintro e w1 ⟨v1, rfl, hi, -, b1⟩
    obtain ⟨qb, qo, qc, qx, q1, q2, q3, rfl, hqb, m0, m1, hr⟩ := hi.at k t3
    have b2 := bel_go b1 B0.out
    have x0 := two_cells ((b1.block w.heap.size Z0.out).trans E0.out)
    obtain ⟨x0, x1, -, -⟩ := x0
    have B2 := hid b2
    rw [← Hx.out] at hr
    have Hr := hid hr; have Hqb := hid hqb
    clear H b1 b2 hi hr hqb
    go_wp2_with fail
    refine (HI.out _ B2.out).mono ?_
    rintro e w2 ⟨rfl, b3⟩
    have m0 := (b3.cell (p := ⟨qb, qo + k * 2, none⟩) Hqb.out).trans m0
    have m1 := (b3.cell (p := ⟨qb, qo + k * 2 + 1, none⟩) Hqb.out).trans m1
    have B3 := hid (bel_go b3 B2.out)
    have HT := hid (isTrue_any _ x w2 (Hr.out.below b3))
    clear HI b3 Hr
    generalize (x != 0) = r at *
    go_wp2_with fail
    refine HT.out.mono ?_
    rintro e w3 ⟨rfl, b4⟩
    have B4 := hid (bel_go b4 B3.out)
    clear HT b4
    go_wp2
    go_ret2
    exact ⟨rfl, B4.out⟩
end Go.Proofs.YtckkpolikdnilaaGreatDoor
/- Of rows that may be: each term's parts stand ahead of it, the terms have their sorts, and the values' sizes are bounded. -/
namespace Go.Proofs.YtckkpolikdnilaaGreatDoor
open Big

/-- the pool behind so many terms more -/
def stepPo : Po → List Tm → Po
  | p, [] => p
  | p, t :: l => stepPo ⟨p.syms, p.terms ++ [t], p.sorts ++ [plSort p t]⟩ l
theorem stepPo_syms : ∀ (l : List Tm) (p : Po), (stepPo p l).syms = p.syms
  | [], _ => rfl
  | _ :: l, _ => by unfold stepPo; rw [stepPo_syms l]
theorem stepPo_terms : ∀ (l : List Tm) (p : Po), (stepPo p l).terms = p.terms ++ l
  | [], _ => by simp [stepPo]
  | _ :: l, _ => by unfold stepPo; rw [stepPo_terms l]; simp
theorem stepPo_append : ∀ (l m : List Tm) (p : Po), stepPo p (l ++ m) = stepPo (stepPo p l) m
  | [], _, _ => rfl
  | t :: l, m, p => stepPo_append l m ⟨p.syms, p.terms ++ [t], p.sorts ++ [plSort p t]⟩
theorem stepPo_sorts : ∀ (l : List Tm) (p : Po), ∃ r, (stepPo p l).sorts = p.sorts ++ r ∧ r.length = l.length
  | [], _ => ⟨[], by simp [stepPo], rfl⟩
  | t :: l, p => by
    obtain ⟨r, h, hr⟩ := stepPo_sorts l ⟨p.syms, p.terms ++ [t], p.sorts ++ [plSort p t]⟩
    exact ⟨plSort p t :: r, by unfold stepPo; rw [h]; simp, by simp [hr]⟩
theorem steps_at : ∀ (l : List Tm) (p : Po), Steps p l → ∀ k (h : k < l.length), plWrong (stepPo p (l.take k)) l[k] = 0
  | _ :: _, _, h, 0, _ => h.1
  | _ :: l, _, h, k + 1, hk => steps_at l _ h.2 k (by simpa using hk)
theorem steps_take : ∀ (l : List Tm) (p : Po) (k : Nat), Steps p l → Steps p (l.take k)
  | [], _, k, _ => by simp [Steps]
  | _ :: _, _, 0, _ => trivial
  | _ :: l, _, k + 1, h => ⟨h.1, steps_take l _ k h.2⟩
theorem known_steps (ts : List Tb5) : ∀ (l : List Tm) (p : Po) (known : List Int), Known p known → Steps p l → Known (stepPo p l) (vlEval p.syms ts l known)
  | [], _, _, hk, _ => hk
  | _ :: l, p, _, hk, h => known_steps ts l ⟨p.syms, _, _⟩ _ (hk.snoc ts (right_of h.1)) h.2
theorem known_none (syms : List Sy) : Known ⟨syms, [], []⟩ [] := ⟨rfl, rfl, fun a h0 h1 => by simp at h1; omega⟩
/-- rows that may be -/
def poAt (syms : List Sy) (terms : List Tm) (k : Nat) : Po := stepPo ⟨syms, [], []⟩ (terms.take k)
theorem poAt_syms (syms : List Sy) (terms : List Tm) (k : Nat) : (poAt syms terms k).syms = syms := stepPo_syms _ _
theorem poAt_terms (syms : List Sy) (terms : List Tm) (k : Nat) : (poAt syms terms k).terms = terms.take k := by unfold poAt; rw [stepPo_terms]; simp
theorem poAt_succ (syms : List Sy) (terms : List Tm) (k : Nat) (h : k < terms.length) : poAt syms terms (k + 1) = ⟨syms, terms.take k ++ [terms[k]], (poAt syms terms k).sorts ++ [plSort (poAt syms terms k) terms[k]]⟩ := by
  have h1 : terms.take (k + 1) = terms.take k ++ [terms[k]] := List.take_succ_eq_append_getElem h
  have h2 := poAt_syms syms terms k
  have h3 := poAt_terms syms terms k
  unfold poAt at *
  rw [h1, stepPo_append]
  show (⟨(stepPo _ _).syms, (stepPo _ _).terms ++ [terms[k]], _⟩ : Po) = _
  rw [h2, h3]
theorem poAt_len (syms : List Sy) (terms : List Tm) (k : Nat) (h : k ≤ terms.length) : (poAt syms terms k).sorts.length = k := by
  obtain ⟨r, h1, h2⟩ := stepPo_sorts (terms.take k) ⟨syms, [], []⟩
  unfold poAt
  rw [h1]
  simp [h2]; omega
/-- the sort of the term at a place -/
def sortAt (syms : List Sy) (terms : List Tm) (k : Nat) : Int := plSortAt (poAt syms terms terms.length) (k : Nat)
theorem sorts_pre (syms : List Sy) (terms : List Tm) (k : Nat) (hk : k ≤ terms.length) (a : Nat) (ha : a < k) : plSortAt (poAt syms terms k) (a : Nat) = sortAt syms terms a := by
  unfold sortAt plSortAt
  have h1 : terms.take terms.length = terms.take k ++ terms.drop k := by simp
  obtain ⟨r, h2, -⟩ := stepPo_sorts (terms.drop k) (poAt syms terms k)
  have h3 : (poAt syms terms terms.length).sorts = (poAt syms terms k).sorts ++ r := by
    rw [← h2]
    unfold poAt
    rw [h1, stepPo_append]
  rw [h3, List.getElem?_append_left (by rw [poAt_len syms terms k hk]; simpa using ha)]
variable {syms : List Sy} {terms : List Tm}
theorem right_at (h : Steps ⟨syms, [], []⟩ terms) (k : Nat) (hk : k < terms.length) : Right (poAt syms terms k) terms[k] := right_of (steps_at terms _ h k hk)
theorem part_at (h : Steps ⟨syms, [], []⟩ terms) (k : Nat) (hk : k < terms.length) : ∀ a ∈ terms[k].args, 0 ≤ a ∧ a < (k : Int) := by
  intro a ha
  have h1 := (right_at h k hk).part a ha
  rw [poAt_terms, List.length_take] at h1
  omega
theorem sort_at (k : Nat) (hk : k < terms.length) : sortAt syms terms k = plSort (poAt syms terms k) terms[k] := by
  rw [← sorts_pre syms terms (k + 1) (by omega) k (by omega), poAt_succ syms terms k hk]
  unfold plSortAt
  simp [poAt_len syms terms k (by omega)]
theorem known_at (ts : List Tb5) (h : Steps ⟨syms, [], []⟩ terms) (k : Nat) : Known (poAt syms terms k) (vlEval syms ts (terms.take k) []) := by
  exact known_steps ts (terms.take k) ⟨syms, [], []⟩ [] (known_none syms) (steps_take terms _ k h)
theorem sorts_of (h : Steps ⟨syms, [], []⟩ terms) : VlSorts syms terms (sortAt syms terms) := by
  refine ⟨fun k hk e => ?_, fun k hk e => ?_, fun k hk e => ?_, fun k hk e1 e2 e3 e4 e5 => ?_⟩
  · have hr := right_at h k hk
    have hc := hr.count (by omega)
    have h1 : 1 < terms[k].args.length := by
      rw [e] at hc
      have h3 : (plRu 9).least = 3 := by decide
      omega
    have h2 := part_at h k hk _ (List.getElem_mem h1)
    refine ⟨(terms[k].args[1]).toNat, h1, by omega, by omega, ?_⟩
    rw [sort_at k hk, ← sorts_pre syms terms k (by omega) _ (by omega)]
    unfold plSort
    rw [if_neg (by omega), if_pos e, List.getElem?_eq_getElem h1]
    show plSortAt _ (terms[k].args[1]) = _
    congr 1; omega
  · rw [sort_at k hk]
    unfold plSort
    rcases e with e | e | e <;> rw [e, if_neg (by decide), if_neg (by decide)] <;> decide
  · have hs := (right_at h k hk).sym e
    rw [poAt_syms] at hs
    refine ⟨terms[k].sym.toNat, by omega, by omega, ?_⟩
    rw [sort_at k hk]
    unfold plSort plSymAt
    rw [if_pos e, poAt_syms, List.getElem?_eq_getElem (by omega)]
    rfl
  · obtain ⟨r, hr⟩ := (right_at h k hk).rule
    rw [sort_at k hk]
    unfold plSort
    rw [if_neg e5, if_neg e1]
    rcases rule_ops hr with e | e | e | e | e | e | e | e | e | e | e | e | e <;> first | omega | (rw [e]; decide)
theorem op_at (ts : List Tb5) (h : Steps ⟨syms, [], []⟩ terms) (k : Nat) (hk : k < terms.length) :
    vlRefOp syms ts terms[k] (vlParts terms[k] (vlEval syms ts (terms.take k) [])) = vlOp syms ts terms[k] (vlParts terms[k] (vlEval syms ts (terms.take k) [])) := by
  have := op_ref (p := poAt syms terms k) ts (known_at ts h k) (right_at h k hk)
  rwa [poAt_syms] at this
/-! ### sizes -/
def Sized (N : Nat) (ts : List Tb5) : Prop := ∀ t ∈ ts, sz Big.W t.els.natAbs ≤ N ∧ ∀ r ∈ t.rows, sz Big.W r.2.natAbs ≤ N
theorem sz_small {N : Nat} {z : Int} (h : sz Big.W z.natAbs ≤ N) : z.natAbs < Big.W ^ N :=
  Nat.lt_of_lt_of_le (lt_pow_sz W2 _) (Nat.pow_le_pow_right (by decide) h)
theorem truth_size (b : Bool) : sz Big.W (vlTruth b).natAbs ≤ 1 := by cases b <;> decide +kernel
theorem sum_lt (B : Nat) : ∀ (l : List Int), (∀ z ∈ l, z.natAbs < B) → (vlSum l).natAbs ≤ l.length * B
  | [], _ => by simp [vlSum]
  | x :: l, h => by
    have h1 := h x (by simp)
    have h2 := sum_lt B l (fun z hz => h z (by simp [hz]))
    have h3 : (vlSum (x :: l)).natAbs ≤ x.natAbs + (vlSum l).natAbs := Int.natAbs_add_le _ _
    rw [List.length_cons, Nat.succ_mul]
    omega
theorem sum_size {N : Nat} {l : List Int} (h : ∀ z ∈ l, sz Big.W z.natAbs ≤ N) (hl : l.length ≤ 64) : sz Big.W (vlSum l).natAbs ≤ N + 1 := by
  refine sz_le_of_lt W2 ?_
  have h1 := sum_lt (Big.W ^ N) l (fun z hz => sz_small (h z hz))
  have h2 : l.length * Big.W ^ N ≤ 64 * Big.W ^ N := Nat.mul_le_mul_right _ hl
  have h3 : 64 * Big.W ^ N < Big.W * Big.W ^ N := Nat.mul_lt_mul_of_pos_right (by decide) (Nat.pow_pos (by decide))
  rw [Nat.pow_succ, Nat.mul_comm]
  omega
theorem tell_size {N : Nat} (hN : 1 ≤ N) {ts : List Tb5} (hts : Sized N ts) (so k : Int) (l : List Int) : sz Big.W (vlTell so (vlTabAt ts k) l).natAbs ≤ N := by
  unfold vlTell
  split
  · exact Nat.le_trans (truth_size _) hN
  · unfold vlTabAt
    rcases hk : ts[k.toNat]? with _ | t
    · show sz Big.W (vlVal ⟨[], 0⟩ l).natAbs ≤ N
      have : vlVal ⟨[], 0⟩ l = 0 := rfl
      rw [this]
      show sz Big.W 0 ≤ N
      rw [sz_zero]; omega
    · show sz Big.W (vlVal t l).natAbs ≤ N
      have hm := hts t (List.mem_of_getElem? hk)
      unfold vlVal
      split
      · next i hi =>
        rcases hr : t.rows[i]? with _ | r
        · show sz Big.W (0 : Int).natAbs ≤ N
          rw [show (0 : Int).natAbs = 0 from rfl, sz_zero]; omega
        · exact hm.2 r (List.mem_of_getElem? hr)
      · exact hm.1
theorem at_size {N : Nat} {l : List Int} (h : ∀ z ∈ l, sz Big.W z.natAbs ≤ N) (k : Int) : sz Big.W (vlAt l k).natAbs ≤ N := by
  unfold vlAt
  rcases hk : l[k.toNat]? with _ | z
  · show sz Big.W (0 : Int).natAbs ≤ N
    rw [show (0 : Int).natAbs = 0 from rfl, sz_zero]; omega
  · exact h z (List.mem_of_getElem? hk)
theorem parts_size {N : Nat} {t : Tm} {known : List Int} (h : ∀ z ∈ known, sz Big.W z.natAbs ≤ N) : ∀ z ∈ vlParts t known, sz Big.W z.natAbs ≤ N := by
  intro z hz
  unfold vlParts at hz
  obtain ⟨a, -, rfl⟩ := List.mem_map.1 hz
  exact at_size h a
theorem op_size {N M : Nat} (hN : 1 ≤ N) {ts : List Tb5} (hts : Sized N ts) {t : Tm} (ht : sz Big.W t.num.natAbs ≤ N) {l : List Int} (hl : ∀ z ∈ l, sz Big.W z.natAbs ≤ M) (hc : t.op = 12 → l.length ≤ 64) :
    sz Big.W (vlOp syms ts t l).natAbs ≤ M + N := by
  unfold vlOp
  have hb : ∀ b, sz Big.W (vlTruth b).natAbs ≤ M + N := fun b => Nat.le_trans (truth_size b) (by omega)
  repeat' split
  all_goals first
    | exact hb _
    | omega
    | exact Nat.le_trans (tell_size hN hts _ _ _) (by omega)
    | exact Nat.le_trans (at_size hl _) (by omega)
    | exact Nat.le_trans (sum_size hl (hc (by assumption))) (by omega)
    | skip
  rw [Int.natAbs_mul]
  have h1 := sz_mul W2 t.num.natAbs (vlAt l 0).natAbs
  have h2 := at_size hl 0
  omega
theorem count_at (h : Steps ⟨syms, [], []⟩ terms) (k : Nat) (hk : k < terms.length) : terms[k].op = 12 → terms[k].args.length ≤ 64 := by
  intro e
  have hc := (right_at h k hk).count (by omega)
  rw [e] at hc
  have h3 : (plRu 12).most = 64 := by decide
  omega
theorem eval_size {N : Nat} (hN : 1 ≤ N) {ts : List Tb5} (hts : Sized N ts) (h : Steps ⟨syms, [], []⟩ terms) (hn : ∀ t ∈ terms, sz Big.W t.num.natAbs ≤ N) : ∀ k, k ≤ terms.length → ∀ z ∈ vlEval syms ts (terms.take k) [], sz Big.W z.natAbs ≤ k * N := by
  intro k
  induction k with
  | zero => intro _ z hz; simp [vlEval] at hz
  | succ k ih =>
    intro hk z hz
    have ih := ih (by omega)
    have hk' : k < terms.length := by omega
    rw [List.take_succ_eq_append_getElem hk', vlEval_snoc] at hz
    rcases List.mem_append.1 hz with hz | hz
    · exact Nat.le_trans (ih z hz) (Nat.mul_le_mul_right _ (by omega))
    · have e : z = _ := List.mem_singleton.1 hz
      rw [e, Nat.succ_mul]
      exact op_size hN hts (hn _ (List.getElem_mem hk')) (parts_size ih) (fun e => by simp only [vlParts, List.length_map]; exact count_at h k hk' e)
/-- all that Eval asks of sizes -/
theorem fit_at {N : Nat} (hN : 1 ≤ N) {ts : List Tb5} (hts : Sized N ts) (h : Steps ⟨syms, [], []⟩ terms) (hn : ∀ t ∈ terms, sz Big.W t.num.natAbs ≤ N) (hl : syms.length ≤ ts.length) (hL : terms.length * N ≤ 268435456) :
    ∀ k (hk : k < terms.length), VlFit syms ts terms[k] (vlParts terms[k] (vlEval syms ts (terms.take k) [])) ∧ (∀ a ∈ terms[k].args, 0 ≤ a ∧ a < k) ∧ sz Big.W (vlOp syms ts terms[k] (vlParts terms[k] (vlEval syms ts (terms.take k) []))).natAbs ≤ 1099511627776 := by
  intro k hk
  have hr := right_at h k hk
  have hs := eval_size hN hts h hn k (by omega)
  have hp := parts_size (t := terms[k]) hs
  have hm : (k + 1) * N ≤ 268435456 := Nat.le_trans (Nat.mul_le_mul_right _ (by omega)) hL
  rw [Nat.succ_mul] at hm
  have hpl : (vlParts terms[k] (vlEval syms ts (terms.take k) [])).length = terms[k].args.length := by simp [vlParts]
  obtain ⟨r, hru⟩ := hr.rule
  have hnum := hn _ (List.getElem_mem hk)
  refine ⟨⟨?_, fun e => ?_, fun e => ?_, fun e => ?_, fun e => ?_, fun e j hj => ?_, ?_, fun z hz => ?_⟩, part_at h k hk, ?_⟩
  · have := rule_ops hru; omega
  · have := hr.sym e
    rw [poAt_syms] at this
    omega
  · have hc := hr.count (by omega)
    rw [hpl]
    rcases e with e | e <;> rw [e] at hc
    · have h3 : (plRu 5).least = 1 := by decide
      omega
    · have h3 : (plRu 13).least = 1 := by decide
      omega
  · have hc := hr.count (by omega)
    rw [hpl]
    rcases e with e | e | e <;> rw [e] at hc
    · have h3 : (plRu 8).least = 2 := by decide
      omega
    · have h3 : (plRu 10).least = 2 := by decide
      omega
    · have h3 : (plRu 11).least = 2 := by decide
      omega
  · have hc := hr.count (by omega)
    rw [hpl]
    rw [e] at hc
    have h3 : (plRu 9).least = 3 := by decide
    omega
  · have h64 := count_at h k hk e
    have := sum_size (N := k * N) (l := (vlParts terms[k] (vlEval syms ts (terms.take k) [])).take j) (fun z hz => hp z (List.mem_of_mem_take hz)) (by rw [List.length_take, hpl]; omega)
    omega
  · have : N ≤ k * N + N := by omega
    omega
  · have := hp z hz; omega
  · have := op_size (syms := syms) hN hts hnum hp (fun e => by rw [hpl]; exact count_at h k hk e)
    omega
end Go.Proofs.YtckkpolikdnilaaGreatDoor
/- Of values, in plain words: each term's value by all values; a table with a row more that repeats what is told; a condition, its Not, its And and Or. -/
namespace Go.Proofs.YtckkpolikdnilaaGreatDoor
open Big

theorem vlEval_append (syms : List Sy) (ts : List Tb5) : ∀ (l m : List Tm) (known : List Int), vlEval syms ts (l ++ m) known = vlEval syms ts m (vlEval syms ts l known)
  | [], _, _ => rfl
  | _ :: l, m, _ => vlEval_append syms ts l m _
theorem vlEval_pre (syms : List Sy) (ts : List Tb5) : ∀ (l : List Tm) (known : List Int), ∃ r, vlEval syms ts l known = known ++ r
  | [], known => ⟨[], by simp [vlEval]⟩
  | t :: l, known => by
    obtain ⟨r, h⟩ := vlEval_pre syms ts l (known ++ [vlOp syms ts t (vlParts t known)])
    exact ⟨_ :: r, by unfold vlEval; rw [h, List.append_assoc]; rfl⟩
theorem eval_take (syms : List Sy) (ts : List Tb5) (terms : List Tm) (k : Nat) : ∃ r, vlEval syms ts terms [] = vlEval syms ts (terms.take k) [] ++ r := by
  obtain ⟨r, h⟩ := vlEval_pre syms ts (terms.drop k) (vlEval syms ts (terms.take k) [])
  exact ⟨r, by rw [← h, ← vlEval_append, List.take_append_drop]⟩
theorem eval_len (syms : List Sy) (ts : List Tb5) (terms : List Tm) : (vlEval syms ts terms []).length = terms.length := by rw [vlEval_len]; simp
theorem at_pre (l r : List Int) (a : Int) (h : a.toNat < l.length) : vlAt (l ++ r) a = vlAt l a := by
  unfold vlAt
  rw [List.getElem?_append_left h]
variable {syms : List Sy} {terms : List Tm}
theorem parts_take (ts : List Tb5) (k : Nat) (hk : k < terms.length) (h : ∀ a ∈ terms[k].args, 0 ≤ a ∧ a < (k : Int)) : vlParts terms[k] (vlEval syms ts (terms.take k) []) = vlParts terms[k] (vlEval syms ts terms []) := by
  obtain ⟨r, e⟩ := eval_take syms ts terms k
  rw [e]
  unfold vlParts
  apply List.map_congr_left
  intro a ha
  have := h a ha
  rw [at_pre]
  rw [eval_len, List.length_take]
  omega
theorem eval_at (ts : List Tb5) (h : Steps ⟨syms, [], []⟩ terms) (k : Nat) (hk : k < terms.length) :
    vlAt (vlEval syms ts terms []) (k : Nat) = vlOp syms ts terms[k] (vlParts terms[k] (vlEval syms ts terms [])) := by
  rw [← parts_take ts k hk (part_at h k hk)]
  obtain ⟨r, e⟩ := eval_take syms ts terms (k + 1)
  rw [e, at_pre _ _ _ (by rw [eval_len, List.length_take]; simp; omega), List.take_succ_eq_append_getElem hk, vlEval_snoc]
  unfold vlAt
  have e2 : (vlEval syms ts (terms.take k) []).length = k := by rw [eval_len, List.length_take]; omega
  rw [List.getElem?_append_right (by rw [e2]; simp)]
  simp [e2]
theorem vlAt_get (l : List Int) (k : Nat) (h : k < l.length) : vlAt l (k : Nat) = l[k] := by unfold vlAt; simp [h]
/-! ### a row more that repeats what is told -/
theorem vlVal_cons (x : List Int × Int) (r : List (List Int × Int)) (e : Int) (args : List Int) : vlVal ⟨x :: r, e⟩ args = if args = x.1 then x.2 else vlVal ⟨r, e⟩ args := by
  unfold vlVal vlFind
  rw [List.findIdx?_cons]
  by_cases h : args = x.1
  · simp [h]
  · simp only [h, decide_false, if_false]
    cases hf : r.findIdx? (fun x => decide (args = x.1)) <;> simp
theorem truth_ne (b : Bool) : (vlTruth b != 0) = b := by cases b <;> decide
theorem tell_more (so : Int) (t : Tb5) (l args : List Int) : vlTell so ⟨(l, vlTell so t l) :: t.rows, t.els⟩ args = vlTell so t args := by
  unfold vlTell
  rw [vlVal_cons]
  by_cases h : args = l
  · subst h
    rw [if_pos rfl]
    split
    · rw [truth_ne]
    · rfl
  · rw [if_neg h]
/-- one table has a row more -/
theorem op_more (ts : List Tb5) (k : Nat) (hk : k < ts.length) (so : Int) (l : List Int) (hso : (syms[k]?.getD ⟨[], 0, 0⟩).sort = so) (t : Tm) (vs : List Int) :
    vlOp syms (ts.set k ⟨(l, vlTell so ts[k] l) :: ts[k].rows, ts[k].els⟩) t vs = vlOp syms ts t vs := by
  unfold vlOp
  congr 1
  congr 1
  congr 1
  by_cases h : t.op = 4
  · rw [if_pos h, if_pos h]
    unfold vlTabAt
    rw [List.getElem?_set]
    by_cases e : k = t.sym.toNat
    · rw [if_pos e]
      subst e
      rw [if_pos hk, hso, List.getElem?_eq_getElem hk]
      exact tell_more so _ l vs
    · rw [if_neg e]
  · rw [if_neg h, if_neg h]
theorem eval_more (ts : List Tb5) (k : Nat) (hk : k < ts.length) (so : Int) (l : List Int) (hso : (syms[k]?.getD ⟨[], 0, 0⟩).sort = so) : ∀ (terms : List Tm) (known : List Int),
    vlEval syms (ts.set k ⟨(l, vlTell so ts[k] l) :: ts[k].rows, ts[k].els⟩) terms known = vlEval syms ts terms known
  | [], _ => rfl
  | t :: terms, known => by
    unfold vlEval
    rw [op_more ts k hk so l hso, eval_more ts k hk so l hso terms]
/-! ### a condition, its Not, its And and Or -/
theorem not_at (ts : List Tb5) (h : Steps ⟨syms, [], []⟩ terms) (k t : Nat) (hk : k < terms.length) (e : terms[k] = ⟨5, [(t : Int)], 0, 0⟩) :
    (vlAt (vlEval syms ts terms []) (k : Nat) != 0) = !(vlAt (vlEval syms ts terms []) (t : Nat) != 0) := by
  rw [eval_at ts h k hk, e]
  show (vlTruth (vlAt [vlAt _ (t : Int)] 0 == 0) != 0) = _
  rw [truth_ne]
  show (vlAt _ (t : Int) == 0) = !(vlAt _ (t : Int) != 0)
  simp [bne]
theorem and_at (ts : List Tb5) (h : Steps ⟨syms, [], []⟩ terms) (k t : Nat) (hk : k < terms.length) (e : terms[k] = ⟨6, [(t : Int), t, t], 0, 0⟩) :
    (vlAt (vlEval syms ts terms []) (k : Nat) != 0) = (vlAt (vlEval syms ts terms []) (t : Nat) != 0) := by
  rw [eval_at ts h k hk, e]
  show (vlTruth ([vlAt _ (t : Int), vlAt _ (t : Int), vlAt _ (t : Int)].all (· != 0)) != 0) = _
  rw [truth_ne]
  simp
theorem or_at (ts : List Tb5) (h : Steps ⟨syms, [], []⟩ terms) (k t n : Nat) (hk : k < terms.length) (e : terms[k] = ⟨7, [(t : Int), n], 0, 0⟩) (hn : (vlAt (vlEval syms ts terms []) (n : Nat) != 0) = !(vlAt (vlEval syms ts terms []) (t : Nat) != 0)) :
    (vlAt (vlEval syms ts terms []) (k : Nat) != 0) = true := by
  rw [eval_at ts h k hk, e]
  show (vlTruth ([vlAt _ (t : Int), vlAt _ (n : Int)].any (· != 0)) != 0) = _
  rw [truth_ne]
  simp only [List.any_cons, List.any_nil, Bool.or_false]
  rw [hn]
  simp
end Go.Proofs.YtckkpolikdnilaaGreatDoor
/- elenchusref05's truth and sure. -/
namespace Go.Proofs.YtckkpolikdnilaaGreatDoor
open Go.RowKit Big Go.WideMaps

set_option maxRecDepth 100000 in
set_option maxHeartbeats 1600000 in
theorem rtruth_any (b : Bool) (w : World) : Calls Tryz.prog 39 #[.bool b] w (RInt (vlTruth b) w) := by
  have HP : Hid (Pair (w.alloc (.cells #[.bool false, .slice none 0 0] 44)) w.heap.size 44) := hid (Pair.new w false none 0 0 44)
  have H1 := hid (ROf_any 1 (w.alloc (.cells #[.bool false, .slice none 0 0] 44)) (by decide) (by decide))
  have H0 := hid (ROf_any 0 (w.alloc (.cells #[.bool false, .slice none 0 0] 44)) (by decide) (by decide))
  have b0 := hid (below1 w (.cells #[.bool false, .slice none 0 0] 44))
  cases b
  case false =>
    show Calls _ _ _ _ (RInt 0 w)
    go_enter Tryz.func39, Tryz.ntmps39
    go_wp2
    exact bodyPost_ret (v := .agg #[.bool false, .slice none 0 0]) (by simp [results, Tryz.results39, go_sem]) rfl ⟨_, rfl, IntAt.zero _, b0.out⟩
  case true =>
    show Calls _ _ _ _ (RInt 1 w)
    go_enter Tryz.func39, Tryz.ntmps39
    go_wp2_with fail
    refine H1.out.mono ?_
    rintro e w1 ⟨v, rfl, hi, hb⟩
    obtain ⟨p, n, c, rfl, hi⟩ := hi.shape
    have hpr := hid (HP.out.below hb)
    have hq := hpr.out.cells
    obtain ⟨_, _, q0, q1, q2, q3⟩ := hq
    have Hi := hid hi; have Hb := hid (bel_go hb b0.out)
    clear hi hb
    go_wp2
    exact bodyPost_ret (v := .agg #[.bool (decide ((1 : Int) < 0)), .slice p n c]) (by simp [results, Tryz.results39, go_sem, q0, q1]) rfl ⟨_, rfl, Hi.out.stored hpr.out _ _ _ _, Below.stored Hb.out (Nat.le_refl _) _ _⟩
set_option maxRecDepth 100000 in
set_option maxHeartbeats 1600000 in
theorem sure_any (v : Value) (z : Int) (w : World) (h : RawAt w v z) : Calls Tryz.prog 84 #[v] w (RBool (z != 0) w) := by
  obtain ⟨n, p, k, c, rfl⟩ := h.agg
  have b0 := below1 w (.cells #[.bool n, .slice p k c] 44)
  have H := hid (RSign_any _ z _ (h.below b0))
  have hs : Hid ((z.sign != 0) = (z != 0)) := hid (by unfold bne; rw [sign_zero])
  have b0 := hid b0
  generalize z.sign = s at *
  generalize hr : (z != 0) = r at *
  clear hr h
  go_enter Tryz.func84, Tryz.ntmps84
  go_wp2_with fail
  refine H.out.mono ?_
  rintro e w1 ⟨rfl, b1⟩
  have b1 := hid (bel_go b1 b0.out)
  clear H
  go_wp2
  go_ret
  exact ⟨by rw [← hs.out]; rfl, b1.out⟩
end Go.Proofs.YtckkpolikdnilaaGreatDoor
/- elenchusref05.Tell. -/
namespace Go.Proofs.YtckkpolikdnilaaGreatDoor
open Go.RowKit Big Go.WideMaps

/-- a variable that holds a number, in any form -/
def VBox (w : World) (g : Nat) (z : Int) : Prop := ∃ d p n c, w.heap[g]? = some (.cells #[.bool d, .slice p n c] 44 (0, 0)) ∧ RawAt w (.agg #[.bool d, .slice p n c]) z
theorem VBox.pair {w : World} {g : Nat} {z : Int} (h : VBox w g z) : Pair w g 44 := by
  obtain ⟨d, p, n, c, h, -⟩ := h
  exact ⟨d, p, n, c, h⟩
theorem VBox.below {w w' : World} {g : Nat} {z : Int} (h : VBox w g z) (hb : Below w.heap.size w w') : VBox w' g z := by
  obtain ⟨d, p, n, c, h, hr⟩ := h
  exact ⟨d, p, n, c, (hb.block g (Array.getElem?_eq_some_iff.1 h).1).trans h, hr.below hb⟩
theorem VBox.put {w : World} {g : Nat} {z : Int} {d : Bool} {p : Option Addr} {n c : Nat} (hp : Pair w g 44) (hi : RawAt w (.agg #[.bool d, .slice p n c]) z) :
    VBox ((w.setCell ⟨g, 0, none⟩ (.bool d)).setCell ⟨g, 1, none⟩ (.slice p n c)) g z := ⟨d, p, n, c, hp.put .., hi.set2 hp _ _ _ _ _ _ rfl rfl⟩
theorem take_eq (a b : List Int) (k : Nat) (ha : k < a.length) (hb : k < b.length) : decide (a.take (k + 1) = b.take (k + 1)) = (decide (a.take k = b.take k) && decide (a[k] = b[k])) := by
  rw [List.take_succ_eq_append_getElem ha, List.take_succ_eq_append_getElem hb]
  rw [Bool.eq_iff_iff]
  simp only [Bool.and_eq_true, decide_eq_true_eq]
  constructor
  · intro h
    have := List.append_inj' h rfl
    exact ⟨this.1, by simpa using this.2⟩
  · rintro ⟨h1, h2⟩
    rw [h1, h2]
theorem RawAt.parts {w : World} {n : Bool} {s : Value} {z : Int} (h : RawAt w (.agg #[.bool n, s]) z) : ∃ p c l, s = .slice p l.length c ∧ At w .u64 (.slice p l.length c) l ∧ Small Big.W l ∧ l.length ≤ 1099511627776 ∧ z = sg n (val Big.W l) := by
  obtain ⟨neg, s', l, e, ha, hs, hl, hz⟩ := h
  injection e with e
  simp only [Array.mk.injEq, List.cons.injEq, and_true] at e
  obtain ⟨e1, e2⟩ := e
  subst e2
  injection e1 with e1
  subst e1
  obtain ⟨p, c, rfl, r⟩ := id ha
  exact ⟨p, c, l, rfl, ha, hs, hl, hz⟩
theorem RowsIn.at {w : World} {v : Value} {l : List (List Int × Int)} (h : RowsIn w v l) (i : Nat) (hi : i < l.length) : ∃ b o c pa ca x q d g, v = .slice (some ⟨b, o, none⟩) l.length c ∧ b < w.heap.size ∧ w.cell? ⟨b, o + i * 3, none⟩ = some (.slice pa l[i].1.length ca) ∧ w.cell? ⟨b, o + i * 3 + 1, none⟩ = some (.bool x) ∧ w.cell? ⟨b, o + i * 3 + 2, none⟩ = some (.slice q d g) ∧ NumsIn w (.slice pa l[i].1.length ca) l[i].1 ∧ RawAt w (.agg #[.bool x, .slice q d g]) l[i].2 := by
  obtain ⟨p, c, rfl, -, -, -, h4⟩ := h
  obtain ⟨b, o, rfl, hb, hc⟩ := h4 (by omega)
  obtain ⟨a, x, s, k0, k1, k2, hn, hr⟩ := hc i hi
  obtain ⟨q, d, g, rfl⟩ := hr.shape
  obtain ⟨pa, ca, rfl, r⟩ := id hn
  exact ⟨b, o, c, pa, ca, x, q, d, g, rfl, hb, k0, k1, k2, hn, hr⟩
set_option maxRecDepth 100000 in
set_option maxHeartbeats 12800000 in
theorem RTell_any (nm : Value) (hnm : ∃ x, nm = .string x) (ar so : Int) (a s v : Value) (n : Bool) (t : Tb5) (args : List Int) (w : World) (h0 : TabIs w a n s t) (h1 : NumsIn w v args) (hs : ∀ z ∈ args, sz Big.W z.natAbs ≤ 549755813888) (ht : ∀ r ∈ t.rows, ∀ z ∈ r.1, sz Big.W z.natAbs ≤ 549755813888) :
    Calls Tryz.prog 16 #[.agg #[nm, .int .i64 ar, .int .i64 so], .agg #[a, .bool n, s], v] w (RInt (vlTell so t args) w) := by
  obtain ⟨nm, rfl⟩ := hnm
  have HT := hid h0.1; have HA := hid h1; have Hs := hid hs; have Ht := hid ht
  have h0' := h0
  obtain ⟨⟨pr, cr, rfl, i0, i1, -, -⟩, hr⟩ := h0'
  obtain ⟨q0, d0, g0, rfl⟩ := hr.shape
  obtain ⟨pa, ca, rfl, j0, j1, -, -⟩ := h1
  unfold maxLen at i1 j1
  obtain ⟨W, hW⟩ : ∃ W, W = ((((w.alloc (.cells #[.string nm, .int .i64 ar, .int .i64 so] 39)).alloc (.cells #[.slice pr t.rows.length cr, .bool n, .slice q0 d0 g0] 46)).alloc (.cells #[.bool false, .slice none 0 0] 44)).alloc (.cells #[.bool n, .slice q0 d0 g0] 44)) := ⟨_, rfl⟩
  have hB : Below w.heap.size w W := by rw [hW]; exact (((below1 w _).alloc (by simp) _).alloc (by simp; omega) _).alloc (by simp; omega) _
  have e0 : W.heap[w.heap.size]? = some (.cells #[.string nm, .int .i64 ar, .int .i64 so] 39 (0, 0)) := by rw [hW]; exact alloc_keep (alloc_keep (alloc_keep (alloc_at _ _ _ rfl)))
  have e1 : W.heap[w.heap.size + 1]? = some (.cells #[.slice pr t.rows.length cr, .bool n, .slice q0 d0 g0] 46 (0, 0)) := by rw [hW]; exact alloc_keep (alloc_keep (alloc_at _ _ _ (by rw [size_alloc])))
  have e2 : W.heap[w.heap.size + 1 + 1]? = some (.cells #[.bool false, .slice none 0 0] 44 (0, 0)) := by rw [hW]; exact alloc_keep (alloc_at _ _ _ (by rw [size_alloc, size_alloc]))
  have e3 : W.heap[w.heap.size + 1 + 1 + 1]? = some (.cells #[.bool n, .slice q0 d0 g0] 44 (0, 0)) := by rw [hW]; exact alloc_at _ _ _ (by rw [size_alloc, size_alloc, size_alloc])
  have z3 : w.heap.size + 1 + 1 + 1 < W.heap.size := by rw [hW, size_alloc, size_alloc, size_alloc, size_alloc]; omega
  have HV0 : Hid (VBox W (w.heap.size + 1 + 1 + 1) t.els) := hid ⟨_, _, _, _, e3, h0.2.below hB⟩
  have HP0 : Hid (Pair W (w.heap.size + 1 + 1) 44) := hid ⟨_, _, _, _, e2⟩
  have HB := hid hB; have E0 := hid e0; have E1 := hid e1
  have Z3 := hid z3
  have hval : ∀ k (hk : k < t.rows.length), vlVal ⟨t.rows.drop k, t.els⟩ args = if args = t.rows[k].1 then t.rows[k].2 else vlVal ⟨t.rows.drop (k + 1), t.els⟩ args := fun k hk => by
    rw [List.drop_eq_getElem_cons hk, vlVal_cons]
  have Hval := hid hval
  have Hend : Hid (vlVal ⟨t.rows.drop t.rows.length, t.els⟩ args = t.els) := hid (by rw [List.drop_length]; rfl)
  obtain ⟨rr, hrr⟩ : ∃ rr, rr = vlTell so t args := ⟨_, rfl⟩
  have Hrr := hid (show rr = if so = 1 then vlTruth (vlVal ⟨t.rows.drop 0, t.els⟩ args != 0) else vlVal ⟨t.rows.drop 0, t.els⟩ args from hrr)
  rw [← hrr]
  obtain ⟨R, hR⟩ : ∃ R, R = t.rows.length := ⟨_, rfl⟩
  have HR := hid hR
  obtain ⟨A, hA⟩ : ∃ A, A = args.length := ⟨_, rfl⟩
  have HAl := hid hA
  rw [← hR] at i0 hW E1 HT Hend ⊢
  rw [← hA] at j0 HA ⊢
  clear hrr h0 hr hs ht hB e0 e1 e2 e3 z3 hval hR hA
  go_enter Tryz.func16, Tryz.ntmps16
  go_upto_region 2 with fail
  rw [← hW]
  clear hW
  have y0 := (rec3_cells E1.out).1
  go_wp2_with fail
  clear y0
  go_loopw [8] (fun i wr => ∃ j : Nat, j ≤ R ∧ i = .int .i64 ((j : Nat) - 1) ∧ Hid (VBox wr (w.heap.size + 1 + 1 + 1) (vlVal ⟨t.rows.drop j, t.els⟩ args)) ∧ Hid (Below w.heap.size w wr) ∧ Hid (wr.heap[w.heap.size]? = W.heap[w.heap.size]? ∧ wr.heap[w.heap.size + 1]? = W.heap[w.heap.size + 1]? ∧ Pair wr (w.heap.size + 1 + 1) 44 ∧ w.heap.size + 1 + 1 + 1 < wr.heap.size)) (fun i _ => (intOf i + 1).toNat)
  case atStart => exact ⟨R, Nat.le_refl _, by go_num, hid (by rw [Hend.out]; exact HV0.out), HB, hid ⟨rfl, rfl, HP0.out, Z3.out⟩⟩
  case round =>
    obtain ⟨j, hj, rfl, HV, HBw, HF⟩ := hrel
    by_cases hpos : 0 < j
    · obtain ⟨k, rfl⟩ : ∃ k, j = k + 1 := ⟨j - 1, by omega⟩
      have hdec : decide (0 ≤ (((k + 1 : Nat) : Int) - 1)) = true := by simp
      have hkk : (((k + 1 : Nat) : Int) - 1) = (k : Nat) := by omega
      rw [hkk] at hdec ⊢
      have hkl : k < t.rows.length := by rw [← HR.out]; omega
      have hklt : (k : Int) < (R : Int) := by omega
      have hrow := HT.out.at k hkl
      obtain ⟨b, o, c, pr', cr', x, q, d, g, e, hb, m0, m1, m2, hN, hRv⟩ := hrow
      rw [← HR.out] at e
      injection e with e1 _ e3
      subst e1 e3
      have hv1 := Hval.out k hkl
      have htk := Ht.out _ (List.getElem_mem hkl)
      generalize t.rows[k].1 = rl at *
      generalize t.rows[k].2 = rv at *
      have y0 : wr.cell? ⟨w.heap.size + 1, 0, none⟩ = some (.slice (some ⟨b, o, none⟩) R cr) := (rec3_cells (HF.out.2.1.trans E1.out)).1
      have m0' := (HBw.out.cell (p := ⟨b, o + k * 3, none⟩) hb).trans m0
      have Hm1 := hid ((HBw.out.cell (p := ⟨b, o + k * 3 + 1, none⟩) hb).trans m1)
      have Hm2 := hid ((HBw.out.cell (p := ⟨b, o + k * 3 + 2, none⟩) hb).trans m2)
      have Hm0 := hid m0'
      have Hy0 := hid y0
      have HN := hid (hN.below HBw.out); have HRv := hid (hRv.below HBw.out)
      have HAw := hid (HA.out.below HBw.out)
      have Hv1 := hid hv1; have Htk := hid htk
      have Hbw : Hid (b < wr.heap.size) := hid (by have := HBw.out.size; omega)
      have hlen1 : rl.length ≤ 9223372036854775807 := by
        obtain ⟨_, _, e, h5, h6, -⟩ := HN.out
        injection e with _ e _
        unfold maxLen at h6; omega
      clear m0 m1 m2 hN hRv hv1 htk hb
      go_wp2_with fail
      clear y0 m0'
      obtain ⟨wo, rfl⟩ : ∃ wo, wo = wr := ⟨_, rfl⟩
      go_loopw [9, 10] (fun s kk wr => ∃ (m : Nat) (b2 : Bool), m ≤ A ∧ s = .bool b2 ∧ kk = .int .i64 (m : Nat) ∧ Hid (b2 = (decide (rl.length = A) && decide (args.take m = rl.take m))) ∧ Hid (Below wo.heap.size wo wr)) (fun _ kk _ => A - (intOf kk).toNat)
      case atStart => exact ⟨0, _, Nat.zero_le _, rfl, rfl, hid (by simp; rw [Bool.eq_iff_iff]; simp; omega), hid (Below.refl _ _)⟩
      case round =>
        obtain ⟨m, b2, hm, rfl, rfl, Hb2, HBq⟩ := hrel
        cases b2
        · have hne : Hid (args ≠ rl) := hid fun e => by
            have h5 := Hb2.out
            rw [← e] at h5
            simp [HAl.out] at h5
          go_wp2_with fail
          go_roundw
          case rel => exact ⟨k, by omega, by go_num, hid (by rw [Hv1.out, if_neg hne.out]; exact HV.out.below HBq.out), hid (bel_go HBq.out HBw.out), hid ⟨(HBq.out.block w.heap.size (by have := HF.out.2.2.2; omega)).trans HF.out.1, (HBq.out.block (w.heap.size + 1) (by have := HF.out.2.2.2; omega)).trans HF.out.2.1, HF.out.2.2.1.below HBq.out, by have := HF.out.2.2.2; have := HBq.out.size; omega⟩⟩
          case measure => simp [intOf] <;> omega
        · by_cases hlt : m < A
          · have hll : rl.length = A := by
              have h5 := Hb2.out
              simp at h5
              exact h5.1
            have htt : args.take m = rl.take m := by
              have h5 := Hb2.out
              simp at h5
              exact h5.2
            have hlt' : (m : Int) < (A : Int) := by omega
            have hltr : (m : Int) < (rl.length : Int) := by omega
            have hla : m < args.length := by rw [← HAl.out]; exact hlt
            have hlr : m < rl.length := by omega
            have hAt := HAw.out.at m hla
            obtain ⟨b5, o5, c5, x5, q5, d5, g5, e5, hb5, n0, n1, n2⟩ := hAt
            have hRt := HN.out.at m hlr
            obtain ⟨b6, o6, c6, x6, q6, d6, g6, e6, hb6, l0, l1, l2⟩ := hRt
            rw [← HAl.out] at e5
            injection e5 with f1 _ f3
            injection e6 with f4 _ f6
            subst f1 f3 f4 f6
            have Hcmp := hid (fun W' (hw : Below wr.heap.size wr W') => RCmp_any _ _ args[m] rl[m] W' (n2.below (bel_go hw HBq.out)) (l2.below (bel_go hw HBq.out)) (Hs.out _ (List.getElem_mem hla)) (Htk.out _ (List.getElem_mem hlr)))
            have HS : Hid (∀ w', Below wr.heap.size wr w' → w'.cell? ⟨w.heap.size + 1, 0, none⟩ = some (.slice (some ⟨b, o, none⟩) R cr) ∧ w'.cell? ⟨b, o + k * 3, none⟩ = some (.slice (some ⟨b6, o6, none⟩) rl.length cr') ∧ w'.cell? ⟨b5, o5 + m * 2, none⟩ = some (.bool x5) ∧ w'.cell? ⟨b5, o5 + m * 2 + 1, none⟩ = some (.slice q5 d5 g5) ∧ w'.cell? ⟨b6, o6 + m * 2, none⟩ = some (.bool x6) ∧ w'.cell? ⟨b6, o6 + m * 2 + 1, none⟩ = some (.slice q6 d6 g6) ∧ Below wr.heap.size wr w') := hid fun w' hb => by
              have h1 := bel_go hb HBq.out
              exact ⟨(h1.cell (p := ⟨w.heap.size + 1, 0, none⟩) (by have := HF.out.2.2.2; show w.heap.size + 1 < _; omega)).trans Hy0.out, (h1.cell (p := ⟨b, o + k * 3, none⟩) Hbw.out).trans Hm0.out, (h1.cell (p := ⟨b5, o5 + m * 2, none⟩) hb5).trans n0, (h1.cell (p := ⟨b5, o5 + m * 2 + 1, none⟩) hb5).trans n1, (h1.cell (p := ⟨b6, o6 + m * 2, none⟩) hb6).trans l0, (h1.cell (p := ⟨b6, o6 + m * 2 + 1, none⟩) hb6).trans l1, hb⟩
            have Hnx := hid (show (ord args[m] rl[m] == 0) = (decide (rl.length = A) && decide (args.take (m + 1) = rl.take (m + 1))) by
              rw [take_eq args rl m hla hlr, ord_zero, hll, htt]; simp)
            generalize ord args[m] rl[m] = od at *
            clear n0 n1 n2 l0 l1 l2 hb5 hb6 htt hla hlr Hb2 hll
            go_upto_region 9 with fail
            go_region_held3 (fun w' => w'.cell? ⟨w.heap.size + 1, 0, none⟩ = some (.slice (some ⟨b, o, none⟩) R cr) ∧ w'.cell? ⟨b, o + k * 3, none⟩ = some (.slice (some ⟨b6, o6, none⟩) rl.length cr') ∧ w'.cell? ⟨b5, o5 + m * 2, none⟩ = some (.bool x5) ∧ w'.cell? ⟨b5, o5 + m * 2 + 1, none⟩ = some (.slice q5 d5 g5) ∧ w'.cell? ⟨b6, o6 + m * 2, none⟩ = some (.bool x6) ∧ w'.cell? ⟨b6, o6 + m * 2 + 1, none⟩ = some (.slice q6 d6 g6) ∧ Below wr.heap.size wr w')
              (first | exact HS.out _ (Below.drew (Below.refl _ _)) | (refine HS.out _ (bel_go hb1 ?_); go_split_ands; assumption))
              (first | (go_at_call 38; (with_reducible refine (Hcmp.out _ (by go_split_ands; assumption)).mono ?_); rintro e w1 ⟨rfl, hb1⟩))
            go_split_ands
            have HBb := hid (show Below wr.heap.size wr w1 by assumption)
            clear hb1
            go_wp2_with fail
            go_roundw
            case rel => exact ⟨m + 1, _, by omega, rfl, by go_num, Hnx, hid (bel_go HBb.out HBq.out)⟩
            case measure => simp [intOf] <;> omega
          · obtain rfl : m = A := by omega
            have heq : Hid (args = rl) := hid (by
              have h5 := Hb2.out
              simp at h5
              have h6 := h5.2
              rw [HAl.out, List.take_length, ← HAl.out, ← h5.1, List.take_length] at h6
              exact h6)
            have hy := (HBq.out.cell (p := ⟨w.heap.size + 1, 0, none⟩) (by have := HF.out.2.2.2; show w.heap.size + 1 < _; omega)).trans Hy0.out
            have h1 := (HBq.out.cell (p := ⟨b, o + k * 3 + 1, none⟩) Hbw.out).trans Hm1.out
            have h2 := (HBq.out.cell (p := ⟨b, o + k * 3 + 2, none⟩) Hbw.out).trans Hm2.out
            have hpt := hid (HV.out.pair.below HBq.out)
            have hq := hpt.out.cells
            obtain ⟨_, _, v0, v1, v2, v3⟩ := hq
            go_wp2_with fail
            go_roundw
            case rel =>
              have bs := Below.stored (Below.refl (w.heap.size + 1 + 1 + 1) wr) (g := w.heap.size + 1 + 1 + 1) (Nat.le_refl _) (.bool x) (.slice q d g)
              exact ⟨k, by omega, by go_num, hid (by rw [Hv1.out, if_pos heq.out]; exact VBox.put hpt.out (HRv.out.below HBq.out)), hid (Below.stored (bel_go HBq.out HBw.out) (by omega) _ _),
                hid ⟨(bs.block w.heap.size (by omega)).trans ((HBq.out.block w.heap.size (by have := HF.out.2.2.2; omega)).trans HF.out.1), (bs.block (w.heap.size + 1) (by omega)).trans ((HBq.out.block (w.heap.size + 1) (by have := HF.out.2.2.2; omega)).trans HF.out.2.1), (HF.out.2.2.1.below HBq.out).away (by omega) _ _, by have := HF.out.2.2.2; have := HBq.out.size; have := bs.size; omega⟩⟩
            case measure => simp [intOf] <;> omega
    · obtain rfl : j = 0 := by omega
      have hdec : decide (0 ≤ (((0 : Nat) : Int) - 1)) = false := by decide
      have s2 := (rec3_cells (HF.out.1.trans E0.out)).2.2
      obtain ⟨vd, vp, vn, vc, vh, vr⟩ := HV.out
      obtain ⟨u0, u1⟩ := pair_cells vh
      have hpr0 := hid HF.out.2.2.1
      generalize vlVal ⟨t.rows.drop 0, t.els⟩ args = z at *
      by_cases hso : so = 1
      · subst hso
        obtain rfl : rr = vlTruth (z != 0) := by rw [Hrr.out, if_pos rfl]
        have hsg : (z.sign != 0) = (z != 0) := by unfold bne; rw [sign_zero]
        have Hsg := hid (RSign_any _ z wr vr)
        have HQ := hid hsg
        have t1 : ((1 : Int) == 1) = true := rfl
        clear Hrr vr vh hsg Hend Hval
        generalize z.sign = sg at *
        go_wp2_with fail
        refine Hsg.out.mono ?_
        rintro e w2 ⟨rfl, b2⟩
        have B2 := hid b2
        have Hc := hid (rtruth_any (sg != 0) w2)
        clear b2
        go_wp2_with fail
        refine Hc.out.mono ?_
        rintro e w3 ⟨v3, rfl, hi, b3⟩
        obtain ⟨p, l, c, rfl, hi⟩ := hi.shape
        have b4 := bel_go b3 B2.out
        have hpr := hid (hpr0.out.below b4)
        have hq := hpr.out.cells
        obtain ⟨_, _, q0, q1, q2, q3⟩ := hq
        have Hi := hid hi; have Hb := hid (bel_go b4 HBw.out)
        clear hi b3 b4 Hc
        go_wp2
        exact bodyPost_ret (v := .agg #[.bool (decide (vlTruth (sg != 0) < 0)), .slice p l c]) (by simp [results, Tryz.results16, go_sem, q0, q1]) rfl ⟨_, rfl, by rw [← HQ.out]; exact Hi.out.stored hpr.out _ _ _ _, Below.stored Hb.out (by omega) _ _⟩
      · obtain rfl : z = rr := by rw [Hrr.out, if_neg hso]
        obtain ⟨p4, c4, l4, e4, hat, hsm, hln, hz⟩ := vr.parts
        injection e4 with f1 f2 f3
        subst f1 f2 f3
        have Hc := hid (Whole_any vd _ l4 wr hat hsm (by omega))
        rw [← hz] at Hc
        have t1 : (so == 1) = false := by simpa using hso
        clear Hrr vr vh hat hsm hln hz Hend Hval
        go_wp2_with fail
        refine Hc.out.mono ?_
        rintro e w3 ⟨v3, rfl, hi, b3⟩
        obtain ⟨p, l, c, rfl, hi⟩ := hi.shape
        have hpr := hid (hpr0.out.below b3)
        have hq := hpr.out.cells
        obtain ⟨_, _, q0, q1, q2, q3⟩ := hq
        have Hi := hid hi; have Hb := hid (bel_go b3 HBw.out)
        clear hi b3 Hc
        go_wp2
        exact bodyPost_ret (v := .agg #[.bool (decide (z < 0)), .slice p l c]) (by simp [results, Tryz.results16, go_sem, q0, q1]) rfl ⟨_, rfl, Hi.out.stored hpr.out _ _ _ _, Below.stored Hb.out (by omega) _ _⟩
end Go.Proofs.YtckkpolikdnilaaGreatDoor
/- elenchusref01.times: products of digits. -/
namespace Go.Proofs.YtckkpolikdnilaaGreatDoor
open Go.RowKit Big

theorem rtimes_step {O : List Nat} {k x y c P Va Vb DI DJ : Nat} (hk : k < O.length) (hP : P = c + O[k] + x * y) (hDk : D ^ k = DI * DJ)
    (hv : val D O + c * D ^ k = Va + DI * (x * Vb)) : val D (O.set k (P % 65536)) + P / 65536 * D ^ (k + 1) = Va + DI * (x * (Vb + DJ * y)) := by
  have h1 := val_set D O k (P % 65536) hk
  have e2 : P % 65536 + D * (P / 65536) = c + O[k] + x * y := by rw [← hP]; unfold D; omega
  rw [Nat.pow_succ]
  generalize val D (O.set k (P % 65536)) = V' at *
  generalize O[k] = o at *
  generalize P % 65536 = r at *
  generalize P / 65536 = q at *
  have e3 : D ^ k * (r + D * q) = D ^ k * (c + o + x * y) := by rw [e2]
  rw [hDk] at e3 h1 hv ⊢
  have g1 : q * (DI * DJ * D) = DI * DJ * (D * q) := by rw [Nat.mul_left_comm, Nat.mul_comm q D]
  have g2 : DI * (x * (Vb + DJ * y)) = DI * (x * Vb) + DI * DJ * (x * y) := by rw [Nat.mul_add, Nat.mul_add, Nat.mul_assoc DI DJ, Nat.mul_left_comm x DJ y]
  have g3 : c * (DI * DJ) = DI * DJ * c := Nat.mul_comm ..
  simp only [Nat.mul_add] at e3
  rw [g1, g2]
  rw [g3] at hv
  omega
theorem dsum_lt {x y o c : Nat} (hx : x < 65536) (hy : y < 65536) (ho : o < 65536) (hc : c < 65536) : x * y ≤ 4294836225 ∧ c + o + x * y ≤ 4294967295 ∧ (c + o + x * y) / 65536 < 65536 := by
  have h : x * y ≤ 65535 * 65535 := Nat.mul_le_mul (by omega) (by omega)
  omega

set_option maxRecDepth 100000 in
set_option maxHeartbeats 3200000 in
theorem rtimes_any (v0 v1 : Value) (l0 l1 : List Nat) (w : World) (h0 : At w .i64 v0 l0) (h1 : At w .i64 v1 l1) (s0 : Small D l0) (s1 : Small D l1)
    (hl0 : l0.length ≤ 4398046511104) (hl1 : l1.length ≤ 4398046511104) : Calls Tryz.prog 107 #[v0, v1] w (RAt .i64 (dig D (val D l0 * val D l1)) w) := by
  have g1 : ∀ (k : Nat) W, Below w.heap.size w W → Calls Tryz.prog 110 #[v1, .int .i64 (k : Nat)] W fun e w' => e = .returned (.int .i64 (l1[k]?.getD 0 : Nat)) ∧ w' = W := fun k W hb => at_any v1 l1 k W (h1.below hb)
  have G1 := hid g1
  clear g1
  obtain ⟨p0, c0, rfl, a1, a2, a3, a4⟩ := h0
  obtain ⟨p1, c1, rfl, b1, b2, b3, -⟩ := h1
  unfold maxLen at a2 b2
  go_enter Tryz.func107, Tryz.ntmps107
  go_wp2_with (first
    | (at_make; refine wpList_full_at rfl _ _ 69 rfl elemInts w.heap.size _ _ _ _ (l0.length + l1.length + 1) rfl rfl (by first | rfl | omega | (simp; done)) (by first | rfl | omega | (simp; done)) (by omega) (by simp [maxLen]; omega) (Nat.le_refl _) ?_; intro vo w1 ho hb1 hs1 hvo; subst hvo))
  go_loopw [18] (fun i wr => ∃ (k : Nat) (O : List Nat), k ≤ l0.length ∧ i = .int .i64 (k : Nat) ∧ Own wr w.heap.size 3 .i64 (.slice (some ⟨w.heap.size, 0, none⟩) (l0.length + l1.length + 1) (l0.length + l1.length + 1)) O ∧ Hid (O.length = l0.length + l1.length + 1) ∧ Small D O ∧
      Hid (∀ j, k + l1.length ≤ j → O[j]?.getD 0 = 0) ∧ Hid (val D O = val D (l0.take k) * val D l1) ∧ Below w.heap.size w wr ∧ w.heap.size ≤ wr.heap.size) (fun i _ => l0.length - (intOf i).toNat)
  case atStart => exact ⟨0, List.replicate (l0.length + l1.length + 1) 0, Nat.zero_le _, rfl, ho, by simp [Hid], small_zeros (by decide) _, by unfold Hid; intro j _; simp [List.getElem?_replicate]; split <;> rfl, by unfold Hid; simp [val_zeros, val], hb1, hs1⟩
  case round =>
    obtain ⟨k, O, hk, rfl, hown, hO, hsO, hz, hv, hbel, hsz⟩ := hrel
    by_cases hkl : k < l0.length
    · obtain ⟨b, off, rfl, hbb, hcell⟩ := a4 (by omega)
      have x0 := small_get s0 k hkl
      obtain ⟨x, hx⟩ : ∃ x, x = l0[k] := ⟨_, rfl⟩
      have hcx := hcell k hkl
      rw [← hx] at x0 hcx
      have Hx := hid hx; have Hcx := hid hcx; clear hx hcell a4 hcx
      unfold D at x0
      go_wp2_with fail
      go_loopw [7, 8] (fun c j wq => ∃ (i c' : Nat) (Q : List Nat), (i ≤ l1.length ∨ (i = l1.length + 1 ∧ c' = 0)) ∧ j = .int .i64 (i : Nat) ∧ c = .int .i64 (c' : Nat) ∧ c' < 65536 ∧ Own wq w.heap.size 3 .i64 (.slice (some ⟨w.heap.size, 0, none⟩) (l0.length + l1.length + 1) (l0.length + l1.length + 1)) Q ∧ Hid (Q.length = l0.length + l1.length + 1) ∧ Small D Q ∧
        Hid (∀ j, k + 1 + l1.length ≤ j → Q[j]?.getD 0 = 0) ∧ Hid (i ≤ l1.length → Q[k + l1.length]?.getD 0 = 0) ∧ Hid (val D Q + c' * D ^ (k + i) = val D (l0.take k) * val D l1 + D ^ k * (x * val D (l1.take i))) ∧ Below w.heap.size w wq ∧ w.heap.size ≤ wq.heap.size) (fun _ j _ => l1.length + 2 - (intOf j).toNat)
      case atStart => exact ⟨0, 0, O, Or.inl (Nat.zero_le _), rfl, rfl, by omega, hown, hO, hsO, by intro j hj; exact hz.out j (by omega), by intro _; exact hz.out _ (Nat.le_refl _), by have := hv.out; unfold Hid; simp [val, this], hbel, hsz⟩
      case round =>
        obtain ⟨i, c', Q, hi, rfl, rfl, hc', hown', hQ, hsQ, hzQ, hzK, hvQ, hbel', hsz'⟩ := hrel
        by_cases hgo : i < l1.length ∨ 0 < c'
        · have hil : i ≤ l1.length := by omega
          have e0 : wr.cell? ⟨b, off + k, none⟩ = some (.int .i64 (x : Nat)) := (hbel'.cell (p := ⟨b, off + k, none⟩) hbb).trans Hcx.out
          obtain ⟨y, hy⟩ : ∃ y, y = l1[i]?.getD 0 := ⟨_, rfl⟩
          have y0 : y < 65536 := by rw [hy]; exact small_getD s1 (by decide) i
          have t1 := fun n => G1.out i (wr.drewN n) (below_drewN hbel' n)
          rw [← hy] at t1
          have T1 := hid t1; have Hy := hid hy; clear t1 hy
          have hkq : k + i < Q.length := by rw [hQ.out]; omega
          obtain ⟨cc0, f0⟩ := hown'.cell (k + i) hkq
          have o0 := small_get hsQ (k + i) hkq
          obtain ⟨o, ho'⟩ : ∃ o, o = Q[k + i] := ⟨_, rfl⟩
          rw [← ho'] at cc0 o0
          have Ho := hid ho'; clear ho'
          unfold D at o0
          obtain ⟨m1, m2, m3⟩ := dsum_lt x0 y0 o0 hc'
          obtain ⟨P, hP⟩ : ∃ P, P = c' + o + x * y := ⟨_, rfl⟩
          rw [← hP] at m2 m3
          have q1 : (x : Int) * (y : Int) ≤ 4294836225 := by
            have : ((x * y : Nat) : Int) ≤ 4294836225 := by omega
            rwa [Int.natCast_mul] at this
          have q2 : 0 ≤ (x : Int) * (y : Int) := by rw [← Int.natCast_mul]; omega
          have q3 : (c' : Int) + (o : Int) + (x : Int) * (y : Int) = (P : Int) := by rw [hP]; simp
          have HP := hid hP; have Q3 := hid q3
          clear hP q3
          have hset := hown'.set (k + i) (P % 65536)
          have hv' : val D (Q.set (k + i) (P % 65536)) + P / 65536 * D ^ (k + (i + 1)) = val D (l0.take k) * val D l1 + D ^ k * (x * val D (l1.take (i + 1))) := by
            have := rtimes_step (DI := D ^ k) (DJ := D ^ i) (x := x) (y := y) hkq (show P = c' + Q[k + i] + x * y by rw [← Ho.out]; exact HP.out) (Nat.pow_add ..) hvQ.out
            rw [val_take_getD D l1 i, ← Hy.out]
            exact this
          have hz' : ∀ j, k + 1 + l1.length ≤ j → (Q.set (k + i) (P % 65536))[j]?.getD 0 = 0 := fun j hj => by
            rw [List.getElem?_set_ne (by omega)]; exact hzQ.out j hj
          have hzk' : i + 1 ≤ l1.length → (Q.set (k + i) (P % 65536))[k + l1.length]?.getD 0 = 0 := fun h => by
            rw [List.getElem?_set_ne (by omega)]; exact hzK.out (by omega)
          have hn : i + 1 ≤ l1.length ∨ (i + 1 = l1.length + 1 ∧ P / 65536 = 0) := by
            by_cases h : i < l1.length
            · exact Or.inl (by omega)
            · right
              have e : i = l1.length := by omega
              refine ⟨by omega, ?_⟩
              have y00 : y = 0 := by rw [Hy.out, List.getElem?_eq_none (by omega)]; rfl
              have o00 : o = 0 := by
                have := hzK.out hil
                rw [Ho.out]
                rw [← e] at this
                simpa [hkq] using this
              rw [HP.out, y00, o00]; omega
          have Hv' := hid hv'; have Hz' := hid hz'; have Hzk' := hid hzk'; have Hn := hid hn
          clear hv' hz' hzk' hn hi
          rcases (by omega : i < l1.length ∨ (¬ i < l1.length ∧ 0 < c')) with h | ⟨h, h'⟩
          all_goals
            go_wp2_with fail
            go_quiet ((go_at_call 110; exact Calls.quiet_of_same (T1.out _)))
            go_wp2_with fail
            have r1 : ((c' : Int) + (o : Int) + (x : Int) * (y : Int)) / 65536 = ((P / 65536 : Nat) : Int) := by rw [Q3.out]; omega
            have r2 : ((c' : Int) + (o : Int) + (x : Int) * (y : Int)) % 65536 = ((P % 65536 : Nat) : Int) := by rw [Q3.out]; omega
            rw [r1, r2]
            have hset := (hown'.kept (below_drewN (Below.refl _ _) nq)).set (k + i) (P % 65536)
            go_roundw
            case rel => exact ⟨i + 1, P / 65536, Q.set (k + i) (P % 65536), Hn.out, by go_num, rfl, m3, hset.1, by unfold Hid; rw [List.length_set]; exact hQ.out, small_set hsQ _ (Nat.mod_lt _ (by decide)), Hz'.out, Hzk'.out, Hv'.out,
              (below_drewN hbel' nq).setCell (p := ⟨w.heap.size, k + i, none⟩) (Nat.le_refl _) _, by simpa [World.setCell] using hsz'⟩
            case measure => (simp [intOf] <;> omega)
        · have hc0 : c' = 0 := by omega
          subst hc0
          have h : ¬ i < l1.length := by omega
          have hv' : Hid (val D Q = val D (l0.take (k + 1)) * val D l1) := by
            have := hvQ.out
            rw [Nat.zero_mul, Nat.add_zero, val_take_ge D l1 i (by omega)] at this
            unfold Hid
            rw [this, val_take_succ D l0 k hkl, ← Hx.out, Nat.add_mul, Nat.mul_assoc]
          clear hgo hi hvQ
          go_wp2_with fail
          go_roundw
          case rel => exact ⟨k + 1, Q, by omega, by go_num, hown', hQ, hsQ, hzQ.out, hv'.out, hbel', hsz'⟩
          case measure => (simp [intOf] <;> omega)
    · obtain rfl : k = l0.length := by omega
      have hv' : Hid (strip O = dig D (val D l0 * val D l1)) := by
        have := hv.out
        rw [List.take_length] at this
        unfold Hid
        rw [← this, strip_dig D2 hsO]
      clear a4
      go_wp2_with (go_at_call 89; refine (rtrim_any _ O _ hown.at).mono ?_; rintro e w' ⟨v', rfl, hv'', rfl⟩)
      go_ret
      exact ⟨_, rfl, by rw [← hv'.out]; exact hv'', hbel⟩
end Go.Proofs.YtckkpolikdnilaaGreatDoor
/- elenchusref01.Mul. -/
namespace Go.Proofs.YtckkpolikdnilaaGreatDoor
open Go.RowKit Big

theorem sz_D_W (n : Nat) : sz D n ≤ 4 * sz W n := by
  refine sz_le_of_lt D2 ?_
  rw [Nat.pow_mul, show D ^ 4 = W from rfl]
  exact lt_pow_sz W2 n

set_option maxRecDepth 100000 in
set_option maxHeartbeats 1600000 in
theorem RMul_any (v0 v1 : Value) (a b : Int) (w : World) (h0 : RawAt w v0 a) (h1 : RawAt w v1 b) (ha : sz W a.natAbs ≤ 549755813888) (hb : sz W b.natAbs ≤ 549755813888) :
    Calls Tryz.prog 85 #[v0, v1] w (RInt (a * b) w) := by
  obtain ⟨n0, s0, l0, rfl, a0, b0, c0, rfl⟩ := h0
  obtain ⟨n1, s1, l1, rfl, a1, b1, c1, rfl⟩ := h1
  rw [sg_natAbs] at ha hb
  have g0 : ∀ W', Below w.heap.size w W' → Calls Tryz.prog 61 #[s0] W' (RAt .i64 (dig D (val W l0)) W') := fun W' hb => Digits_any s0 l0 W' (a0.below hb) b0 (by omega)
  have g1 : ∀ W', Below w.heap.size w W' → Calls Tryz.prog 61 #[s1] W' (RAt .i64 (dig D (val W l1)) W') := fun W' hb => Digits_any s1 l1 W' (a1.below hb) b1 (by omega)
  obtain ⟨r, hr⟩ : ∃ r, r = sg n0 (val W l0) * sg n1 (val W l1) := ⟨_, rfl⟩
  rw [← hr]
  have Hr : Hid (sg (n0 != n1) (val W l0 * val W l1) = r) := by unfold Hid; rw [sg_mul, hr]
  clear hr
  generalize val W l0 = x at *
  generalize val W l1 = y at *
  have d0 : sz D x ≤ 2199023255552 := Nat.le_trans (sz_D_W x) (by omega)
  have d1 : sz D y ≤ 2199023255552 := Nat.le_trans (sz_D_W y) (by omega)
  have dxy : sz D (x * y) ≤ 8796093022208 := Nat.le_trans (sz_mul D2 x y) (by omega)
  have wxy : sz W (x * y) ≤ 2199023255552 := Nat.le_trans (sz_mul W2 x y) (by omega)
  have ht : ∀ W' u u', At W' .i64 u (dig D x) → At W' .i64 u' (dig D y) → Calls Tryz.prog 107 #[u, u'] W' (RAt .i64 (dig D (x * y)) W') := fun W' u u' hu hu' => by
    have := rtimes_any u u' _ _ W' hu hu' (small_dig D2 x) (small_dig D2 y) (by show sz D x ≤ _; omega) (by show sz D y ≤ _; omega)
    rwa [val_dig D2, val_dig D2] at this
  have hf : ∀ W' u, At W' .i64 u (dig D (x * y)) → Calls Tryz.prog 60 #[u] W' (RAt .u64 (dig W (x * y)) W') := fun W' u hu => by
    have := From_any u _ W' hu (small_dig D2 _) dxy
    rwa [val_dig D2] at this
  have hw : ∀ W' u, At W' .u64 u (dig W (x * y)) → Calls Tryz.prog 40 #[.bool (n0 != n1), u] W' (RInt r W') := fun W' u hu => by
    have := Whole_any (n0 != n1) u _ W' hu (small_dig W2 _) wxy
    rw [val_dig W2, Hr.out] at this
    exact this
  have G0 := hid g0; have G1 := hid g1; have HT := hid ht; have HF := hid hf; have HW := hid hw
  clear g0 g1 ht hf hw a0 a1 b0 b1 c0 c1 ha hb Hr
  go_enter Tryz.func85, Tryz.ntmps85
  go_wp2_with fail
  generalize hW : World.alloc (World.alloc (World.alloc w _) _) _ = W3
  have bw : Below w.heap.size w W3 := by rw [← hW]; exact ((below1 _ _).alloc (by simp) _).alloc (by simp; omega) _
  have hp : Pair W3 (w.heap.size + 1 + 1) 44 := by rw [← hW]; exact Pair.new2 ..
  obtain ⟨c00, c01, c10, c11, -⟩ : Two W3 w.heap.size (.bool n0) s0 (.bool n1) s1 := by rw [← hW]; exact (Two.new w _ _ _ _ _).below (below1 _ _)
  have z3 : w.heap.size + 3 ≤ W3.heap.size := by rw [← hW]; simp
  have bw' := hid bw
  clear hW
  go_region_held3 (fun w' => w'.cell? ⟨w.heap.size, 0, none⟩ = some (.bool n0) ∧ w'.cell? ⟨w.heap.size, 1, none⟩ = some s0 ∧ w'.cell? ⟨w.heap.size + 1, 0, none⟩ = some (.bool n1) ∧ w'.cell? ⟨w.heap.size + 1, 1, none⟩ = some s1 ∧ Pair w' (w.heap.size + 1 + 1) 44)
    (first | (go_split_ands; (try dsimp only); (repeat' apply And.intro) <;> first | assumption | exact Pair.drew ‹_› | exact Pair.below ‹_› hb9 | exact Pair.below ‹_› hb8 | exact Pair.below ‹_› hb7 | exact Pair.below ‹_› hb6 | exact Pair.below ‹_› hb5 | exact Pair.below ‹_› hb4 | exact Pair.below ‹_› hb3 | exact Pair.below ‹_› hb2 | exact Pair.below ‹_› hb1 | exact (hb9.cell (by first | omega | (simp; omega) | (simp; done))).trans ‹_› | exact (hb8.cell (by first | omega | (simp; omega) | (simp; done))).trans ‹_› | exact (hb7.cell (by first | omega | (simp; omega) | (simp; done))).trans ‹_› | exact (hb6.cell (by first | omega | (simp; omega) | (simp; done))).trans ‹_› | exact (hb5.cell (by first | omega | (simp; omega) | (simp; done))).trans ‹_› | exact (hb4.cell (by first | omega | (simp; omega) | (simp; done))).trans ‹_› | exact (hb3.cell (by first | omega | (simp; omega) | (simp; done))).trans ‹_› | exact (hb2.cell (by first | omega | (simp; omega) | (simp; done))).trans ‹_› | exact (hb1.cell (by first | omega | (simp; omega) | (simp; done))).trans ‹_› | exact Pair.set1 (Pair.set0 ‹_› _) _ _ _ | exact (cell_stored _ (by first | (dsimp only; omega) | (simp; done) | (simp; omega)) _ _).trans ‹_› | exact Pair.drew (Pair.below ‹_› (below1 _ _)) | exact Pair.below ‹_› (below1 _ _) | exact Pair.far ‹_› (by omega) hb1 | exact Pair.new .. | exact Pair.new1 .. | exact Pair.new2 .. | (go_keep; done)) | (go_keep; done))
    (first
      | (go_at_call_of 61 (s0); (fail_if_success have _t := i1); refine (G0.out _ (Below.drew bw'.out)).mono ?_; rintro e w1 ⟨v1, rfl, i1, hb1⟩; have hz1 : w.heap.size + 3 ≤ w1.heap.size := (by have := hb1.size; simp at this; omega); have bw1 := hid (bw'.out.drew.trans (hb1.mono (B' := w.heap.size) (by simp; omega))))
      | (go_at_call_of 61 (s1); refine (G1.out _ bw1.out).mono ?_; rintro e w2 ⟨v2, rfl, i2, hb2⟩; have i1' := i1.below hb2; have hz2 : w.heap.size + 3 ≤ w2.heap.size := (by have := hb2.size; omega); have bw2 := hid (bw1.out.trans (hb2.mono (B' := w.heap.size) (by omega))))
      | (go_at_call 107; refine (HT.out _ _ _ i1' i2).mono ?_; rintro e w3 ⟨v3, rfl, i3, hb3⟩; have hz3 : w.heap.size + 3 ≤ w3.heap.size := (by have := hb3.size; omega); have bw3 := hid (bw2.out.trans (hb3.mono (B' := w.heap.size) (by omega))))
      | (go_at_call 60; refine (HF.out _ _ i3).mono ?_; rintro e w4 ⟨v4, rfl, i4, hb4⟩; have hz4 : w.heap.size + 3 ≤ w4.heap.size := (by have := hb4.size; omega); have bw4 := hid (bw3.out.trans (hb4.mono (B' := w.heap.size) (by omega))))
      | (go_at_call 40; refine (HW.out _ _ i4).mono ?_; rintro e w5 ⟨v5, rfl, hi5, hb5⟩; have hz5 : w.heap.size + 3 ≤ w5.heap.size := (by have := hb5.size; omega); have bw5 := hid (bw4.out.trans (hb5.mono (B' := w.heap.size) (by omega))); obtain ⟨p5, n5, c5, rfl, hi5⟩ := hi5.shape; have hpr := Pair.below (by go_split_ands; assumption) hb5; obtain ⟨_, _, q0, q1, q2, q3⟩ := hpr.cells))
  go_wp2
  exact bodyPost_ret (v := .agg #[.bool (decide (r < 0)), .slice p5 n5 c5]) (by simp [results, Tryz.results85, go_sem, q0, q1]) rfl
    ⟨_, rfl, hi5.stored hpr _ _ _ _, Below.stored bw5.out (by omega) _ _⟩
end Go.Proofs.YtckkpolikdnilaaGreatDoor
/- What One answers. -/
namespace Go.Proofs.YtckkpolikdnilaaGreatDoor
open Go.RowKit Big Go.WideMaps

theorem truth_fit (b : Bool) : sz Big.W (vlTruth b).natAbs ≤ 1099511627776 := Nat.le_trans (truth_size b) (by decide)
def RRaw (z : Int) (w : World) (e : Ending) (w' : World) : Prop := ∃ v, e = .returned v ∧ RawAt w' v z ∧ Below w.heap.size w w'
end Go.Proofs.YtckkpolikdnilaaGreatDoor
/- elenchusref05.One of Op 1. -/
namespace Go.Proofs.YtckkpolikdnilaaGreatDoor
open Go.RowKit Big Go.WideMaps

set_option maxRecDepth 100000 in
set_option maxHeartbeats 12800000 in
theorem One_true (vs v0 vm vt vk : Value) (syms : List Sy) (ts : List Tb5) (t : Tm) (known : List Int) (w : World) (hs : SyIn w vs syms) (hv : ∃ p n c, v0 = .slice p n c) (hm : TabsIn w vm ts) (h0 : TmRaw w vt t) (h1 : NumsIn w vk known) (ha : ∀ a ∈ t.args, 0 ≤ a ∧ a < known.length) (hn : t.args.length ≤ 1048576)
    (hop : t.op = 1) (rr : Int) (hrr : rr = vlTruth true) :
    Calls Tryz.prog 53 #[.agg #[vs, v0], .agg #[vm], vt, vk] w (RRaw rr w) := by
  have Hrr := hid hrr
  clear hrr
  obtain ⟨i0, hi, hz0, hz1, hz2⟩ := info_parts infoNum
  obtain ⟨p9, n9, c9, rfl⟩ := hv
  obtain ⟨pa, ca, bb, pm, nm, cm, rfl, hA, hN⟩ := h0
  obtain ⟨pa', ca', e, j1, j2, -, j4⟩ := hA
  injection e with e1 e2 e3
  subst e1 e3
  clear e2
  have J4 := hid j4
  have H1 := hid h1
  have Ha := hid ha
  have HS := hid hs; have HM := hid hm; have HN := hid hN
  obtain ⟨pk, ck, rfl, k1, k2, -, k4⟩ := h1
  obtain ⟨ps, cps, rfl, s1, s2, -, -⟩ := hs
  obtain ⟨pq, cpq, rfl, q1, q2, -, -⟩ := hm
  have K4 := hid k4
  unfold maxLen at j2 k2 s2 q2
  obtain ⟨W, hW⟩ : ∃ W, W = ((((w.alloc (.cells #[.slice ps syms.length cps, .slice p9 n9 c9] 25)).alloc (.cells #[.slice pq ts.length cpq] 28)).alloc (.cells #[.int .i64 t.op, .slice pa t.args.length ca, .bool bb, .slice pm nm cm, .int .i64 t.sym] 71)).alloc (.cells #[.bool false, .slice none 0 0] 44)) := ⟨_, rfl⟩
  have b0 : Below w.heap.size w W := by rw [hW]; exact (((below1 w _).alloc (by simp) _).alloc (by simp; omega) _).alloc (by simp; omega) _
  have e0 : W.heap[w.heap.size]? = some (.cells #[.slice ps syms.length cps, .slice p9 n9 c9] 25 (0, 0)) := by rw [hW]; exact alloc_keep (alloc_keep (alloc_keep (alloc_at _ _ _ rfl)))
  have e1 : W.heap[w.heap.size + 1]? = some (.cells #[.slice pq ts.length cpq] 28 (0, 0)) := by rw [hW]; exact alloc_keep (alloc_keep (alloc_at _ _ _ (by rw [size_alloc])))
  have e2 : W.heap[w.heap.size + 1 + 1]? = some (.cells #[.int .i64 t.op, .slice pa t.args.length ca, .bool bb, .slice pm nm cm, .int .i64 t.sym] 71 (0, 0)) := by rw [hW]; exact alloc_keep (alloc_at _ _ _ (by rw [size_alloc, size_alloc]))
  have e3 : W.heap[w.heap.size + 1 + 1 + 1]? = some (.cells #[.bool false, .slice none 0 0] 44 (0, 0)) := by rw [hW]; exact alloc_at _ _ _ (by rw [size_alloc, size_alloc, size_alloc])
  have z3 : W.heap.size = w.heap.size + 1 + 1 + 1 + 1 := by rw [hW, size_alloc, size_alloc, size_alloc, size_alloc]
  have x1 : W.cell? ⟨w.heap.size + 1 + 1, 1, none⟩ = some (.slice pa t.args.length ca) := rec5_cell e2
  have B0 := hid b0; have E0 := hid e0; have E1 := hid e1; have E2 := hid e2; have E3 := hid e3; have Z3 := hid z3
  have Hlp : Hid ((vlParts t known).length = t.args.length) := hid (by simp [vlParts])
  unfold vlParts at *
  clear j4 k4 ha b0 e0 e1 e2 e3 z3 hN s1 s2 q1 q2
  obtain ⟨op, al, num, sym⟩ := t
  dsimp only at *
  subst hop
  go_enter Tryz.func53, Tryz.ntmps53
  go_upto_region 2 with fail
  rw [← hW]
  clear hW
  go_wp2_with fail
  have hzw : w.heap.size < W.heap.size := by have := Z3.out; omega
  go_loopw [9, 20] (fun o i wr => ∃ (k : Nat) (cs : List Value), k ≤ al.length ∧ i = .int .i64 (k : Nat) ∧ wr.ownsRow W.heap.size 44 2 o k cs ∧ Hid (VlCells w ((al.take k).map (vlAt known)) cs) ∧ Hid (Below W.heap.size W wr)) (fun _ i _ => al.length - (intOf i).toNat)
  case atStart => exact ⟨0, [], Nat.zero_le _, rfl, World.ownsRow_nil .., hid rfl, hid (Below.refl _ _)⟩
  case round =>
    obtain ⟨k, cs, hk, rfl, ho, hC, hB⟩ := hrel
    by_cases hlt : k < al.length
    · have hbw := hid (bel_go hB.out B0.out)
      obtain ⟨ba, oa, rfl, hba, hca⟩ := J4.out (by omega)
      have ka := (hbw.out.cell (p := ⟨ba, oa + k, none⟩) hba).trans (hca k hlt)
      obtain ⟨hj0, hj1⟩ := Ha.out al[k] (List.getElem_mem hlt)
      obtain ⟨j, hj⟩ : ∃ j : Nat, al[k] = (j : Nat) := ⟨al[k].toNat, by omega⟩
      have hjk : j < known.length := by omega
      have hjk' : (j : Int) < (known.length : Int) := by omega
      obtain ⟨bk, ok, rfl, hbk, hck⟩ := K4.out (by omega)
      obtain ⟨n, s, c0, c1, hr⟩ := hck j hjk
      obtain ⟨q, d, g, rfl⟩ := hr.shape
      have m0 := (hbw.out.cell (p := ⟨bk, ok + j * 2, none⟩) hbk).trans c0
      have m1 := (hbw.out.cell (p := ⟨bk, ok + j * 2 + 1, none⟩) hbk).trans c1
      rw [hj] at ka
      have Htk := hid (show (al.take (k+1)).map (vlAt known) = (al.take k).map (vlAt known) ++ [known[j]] from by rw [List.take_succ_eq_append_getElem hlt, List.map_append, List.map_singleton, hj, vlAt_nat known j hjk])
      have Hr := hid hr
      have bn := below1 wr (.cells #[.bool n, .slice q d g] 44)
      have ho4 := ownsRow_later ho bn
      have hz4 := size_alloc wr (.cells #[.bool n, .slice q d g] 44)
      have hnew := heap_alloc_new wr (.cells #[.bool n, .slice q d g] 44)
      have hnews : ∀ j u, ([.bool n, .slice q d g] : List Value)[j]? = some u → (wr.alloc (.cells #[.bool n, .slice q d g] 44)).cell? ((⟨wr.heap.size, 0, none⟩ : Addr).add j) = some u := by
        intro j u hj
        rw [Go.WideShapes.add_plain, Nat.zero_add, cell_of_row _ _ _ _ _ _ hnew]
        simpa using hj
      have hlw := hB.out.size
      have Bn := hid bn
      clear hck hca c0 c1 hr hj0 hj1 hj hba hbk bn ho hnew
      go_wp2_with (at_builtin; refine wpList_append_own _ rfl _ _ 32 rfl W.heap.size 44 i0 _ 2 32 Tryz.underlying32 hi hz0 hz1 hz2 rfl (by decide) _ k _ rfl ho4 ⟨wr.heap.size, 0, none⟩ 1 1 [.bool n, .slice q d g] rfl rfl hnews (by intro u hu; simp at hu; rcases hu with rfl | rfl <;> rfl) (by simp [maxLen]; omega) (by omega) (by omega) ?_; intro v5 w5 ho5 hg5 _)
      go_roundw
      case rel => exact ⟨k + 1, _, by omega, by go_num, ho5, hid (by rw [Htk.out]; exact hC.out.snoc Hr.out), hid ((hB.out.trans (Bn.out.mono hlw)).grown hg5 (by omega) (fun g hg => (World.ownsRow.lt ho4 g hg).1))⟩
      case measure => simp [intOf] <;> omega
    · obtain rfl : k = al.length := by omega
      have hbw := hid (bel_go hB.out B0.out)
      have hown : NumsOwn W.heap.size wr _ (al.map (vlAt known)) := ⟨cs, by rw [List.length_map]; exact ho, by have := hC.out; rw [List.take_length] at this; exact this.below hbw.out⟩
      obtain ⟨po, co, rfl⟩ := ownsRow_shape ho
      have HL := hid hown.in
      have HO := hid (fun k (h : (Value.slice po al.length co).ownBlock = some k) => (World.ownsRow.lt ho k h).1)
      have F0 := hid ((hB.out.block w.heap.size (by have := Z3.out; omega)).trans E0.out)
      have F1 := hid ((hB.out.block (w.heap.size + 1) (by have := Z3.out; omega)).trans E1.out)
      have F2 := hid ((hB.out.block (w.heap.size + 1 + 1) (by have := Z3.out; omega)).trans E2.out)
      have HP : Hid (Pair wr (w.heap.size + 1 + 1 + 1) 44) := hid ⟨_, _, _, _, (hB.out.block (w.heap.size + 1 + 1 + 1) (by have := Z3.out; omega)).trans E3.out⟩
      have hsz : w.heap.size + 1 + 1 + 1 < wr.heap.size := by have := Z3.out; have := hB.out.size; omega
      have hop : wr.cell? ⟨w.heap.size + 1 + 1, 0, none⟩ = some (.int .i64 1) := by have := F2.out; simp [World.cell?, this]
      generalize al.map (vlAt known) = l at *
      clear x1 hown ho hC B0 E0 E1 E2 E3 H1 K4 J4 Ha
      have Hlp2 : Hid (l.length = al.length) := Hlp
      rw [← Hlp2.out] at HL ⊢
      clear Hlp
      have Hc := hid (rtruth_any true wr)
      go_wp2_with fail
      refine Hc.out.mono ?_
      rintro e w2 ⟨v2, rfl, hi2, b2⟩
      obtain ⟨p2, n2, c2, rfl, hi2⟩ := hi2.shape
      have hpr := hid (HP.out.below b2)
      have hq := hpr.out.cells
      obtain ⟨_, _, q0, q1, q2, q3⟩ := hq
      have Hi := hid hi2; have Hb := hid (bel_go b2 hbw.out)
      clear hi2 b2 Hc
      go_wp2
      exact bodyPost_ret (v := .agg #[.bool (decide (vlTruth true < 0)), .slice p2 n2 c2]) (by simp [results, Tryz.results53, go_sem, q0, q1]) rfl ⟨_, rfl, by rw [Hrr.out]; exact (IntAt.raw (Hi.out.stored hpr.out _ _ _ _) (truth_fit _)), Below.stored Hb.out (by omega) _ _⟩
end Go.Proofs.YtckkpolikdnilaaGreatDoor
/- elenchusref05.One of Op 2. -/
namespace Go.Proofs.YtckkpolikdnilaaGreatDoor
open Go.RowKit Big Go.WideMaps

set_option maxRecDepth 100000 in
set_option maxHeartbeats 12800000 in
theorem One_false (vs v0 vm vt vk : Value) (syms : List Sy) (ts : List Tb5) (t : Tm) (known : List Int) (w : World) (hs : SyIn w vs syms) (hv : ∃ p n c, v0 = .slice p n c) (hm : TabsIn w vm ts) (h0 : TmRaw w vt t) (h1 : NumsIn w vk known) (ha : ∀ a ∈ t.args, 0 ≤ a ∧ a < known.length) (hn : t.args.length ≤ 1048576)
    (hop : t.op = 2) (rr : Int) (hrr : rr = 0) :
    Calls Tryz.prog 53 #[.agg #[vs, v0], .agg #[vm], vt, vk] w (RRaw rr w) := by
  have Hrr := hid hrr
  clear hrr
  obtain ⟨i0, hi, hz0, hz1, hz2⟩ := info_parts infoNum
  obtain ⟨p9, n9, c9, rfl⟩ := hv
  obtain ⟨pa, ca, bb, pm, nm, cm, rfl, hA, hN⟩ := h0
  obtain ⟨pa', ca', e, j1, j2, -, j4⟩ := hA
  injection e with e1 e2 e3
  subst e1 e3
  clear e2
  have J4 := hid j4
  have H1 := hid h1
  have Ha := hid ha
  have HS := hid hs; have HM := hid hm; have HN := hid hN
  obtain ⟨pk, ck, rfl, k1, k2, -, k4⟩ := h1
  obtain ⟨ps, cps, rfl, s1, s2, -, -⟩ := hs
  obtain ⟨pq, cpq, rfl, q1, q2, -, -⟩ := hm
  have K4 := hid k4
  unfold maxLen at j2 k2 s2 q2
  obtain ⟨W, hW⟩ : ∃ W, W = ((((w.alloc (.cells #[.slice ps syms.length cps, .slice p9 n9 c9] 25)).alloc (.cells #[.slice pq ts.length cpq] 28)).alloc (.cells #[.int .i64 t.op, .slice pa t.args.length ca, .bool bb, .slice pm nm cm, .int .i64 t.sym] 71)).alloc (.cells #[.bool false, .slice none 0 0] 44)) := ⟨_, rfl⟩
  have b0 : Below w.heap.size w W := by rw [hW]; exact (((below1 w _).alloc (by simp) _).alloc (by simp; omega) _).alloc (by simp; omega) _
  have e0 : W.heap[w.heap.size]? = some (.cells #[.slice ps syms.length cps, .slice p9 n9 c9] 25 (0, 0)) := by rw [hW]; exact alloc_keep (alloc_keep (alloc_keep (alloc_at _ _ _ rfl)))
  have e1 : W.heap[w.heap.size + 1]? = some (.cells #[.slice pq ts.length cpq] 28 (0, 0)) := by rw [hW]; exact alloc_keep (alloc_keep (alloc_at _ _ _ (by rw [size_alloc])))
  have e2 : W.heap[w.heap.size + 1 + 1]? = some (.cells #[.int .i64 t.op, .slice pa t.args.length ca, .bool bb, .slice pm nm cm, .int .i64 t.sym] 71 (0, 0)) := by rw [hW]; exact alloc_keep (alloc_at _ _ _ (by rw [size_alloc, size_alloc]))
  have e3 : W.heap[w.heap.size + 1 + 1 + 1]? = some (.cells #[.bool false, .slice none 0 0] 44 (0, 0)) := by rw [hW]; exact alloc_at _ _ _ (by rw [size_alloc, size_alloc, size_alloc])
  have z3 : W.heap.size = w.heap.size + 1 + 1 + 1 + 1 := by rw [hW, size_alloc, size_alloc, size_alloc, size_alloc]
  have x1 : W.cell? ⟨w.heap.size + 1 + 1, 1, none⟩ = some (.slice pa t.args.length ca) := rec5_cell e2
  have B0 := hid b0; have E0 := hid e0; have E1 := hid e1; have E2 := hid e2; have E3 := hid e3; have Z3 := hid z3
  have Hlp : Hid ((vlParts t known).length = t.args.length) := hid (by simp [vlParts])
  unfold vlParts at *
  clear j4 k4 ha b0 e0 e1 e2 e3 z3 hN s1 s2 q1 q2
  obtain ⟨op, al, num, sym⟩ := t
  dsimp only at *
  subst hop
  go_enter Tryz.func53, Tryz.ntmps53
  go_upto_region 2 with fail
  rw [← hW]
  clear hW
  go_wp2_with fail
  have hzw : w.heap.size < W.heap.size := by have := Z3.out; omega
  go_loopw [9, 20] (fun o i wr => ∃ (k : Nat) (cs : List Value), k ≤ al.length ∧ i = .int .i64 (k : Nat) ∧ wr.ownsRow W.heap.size 44 2 o k cs ∧ Hid (VlCells w ((al.take k).map (vlAt known)) cs) ∧ Hid (Below W.heap.size W wr)) (fun _ i _ => al.length - (intOf i).toNat)
  case atStart => exact ⟨0, [], Nat.zero_le _, rfl, World.ownsRow_nil .., hid rfl, hid (Below.refl _ _)⟩
  case round =>
    obtain ⟨k, cs, hk, rfl, ho, hC, hB⟩ := hrel
    by_cases hlt : k < al.length
    · have hbw := hid (bel_go hB.out B0.out)
      obtain ⟨ba, oa, rfl, hba, hca⟩ := J4.out (by omega)
      have ka := (hbw.out.cell (p := ⟨ba, oa + k, none⟩) hba).trans (hca k hlt)
      obtain ⟨hj0, hj1⟩ := Ha.out al[k] (List.getElem_mem hlt)
      obtain ⟨j, hj⟩ : ∃ j : Nat, al[k] = (j : Nat) := ⟨al[k].toNat, by omega⟩
      have hjk : j < known.length := by omega
      have hjk' : (j : Int) < (known.length : Int) := by omega
      obtain ⟨bk, ok, rfl, hbk, hck⟩ := K4.out (by omega)
      obtain ⟨n, s, c0, c1, hr⟩ := hck j hjk
      obtain ⟨q, d, g, rfl⟩ := hr.shape
      have m0 := (hbw.out.cell (p := ⟨bk, ok + j * 2, none⟩) hbk).trans c0
      have m1 := (hbw.out.cell (p := ⟨bk, ok + j * 2 + 1, none⟩) hbk).trans c1
      rw [hj] at ka
      have Htk := hid (show (al.take (k+1)).map (vlAt known) = (al.take k).map (vlAt known) ++ [known[j]] from by rw [List.take_succ_eq_append_getElem hlt, List.map_append, List.map_singleton, hj, vlAt_nat known j hjk])
      have Hr := hid hr
      have bn := below1 wr (.cells #[.bool n, .slice q d g] 44)
      have ho4 := ownsRow_later ho bn
      have hz4 := size_alloc wr (.cells #[.bool n, .slice q d g] 44)
      have hnew := heap_alloc_new wr (.cells #[.bool n, .slice q d g] 44)
      have hnews : ∀ j u, ([.bool n, .slice q d g] : List Value)[j]? = some u → (wr.alloc (.cells #[.bool n, .slice q d g] 44)).cell? ((⟨wr.heap.size, 0, none⟩ : Addr).add j) = some u := by
        intro j u hj
        rw [Go.WideShapes.add_plain, Nat.zero_add, cell_of_row _ _ _ _ _ _ hnew]
        simpa using hj
      have hlw := hB.out.size
      have Bn := hid bn
      clear hck hca c0 c1 hr hj0 hj1 hj hba hbk bn ho hnew
      go_wp2_with (at_builtin; refine wpList_append_own _ rfl _ _ 32 rfl W.heap.size 44 i0 _ 2 32 Tryz.underlying32 hi hz0 hz1 hz2 rfl (by decide) _ k _ rfl ho4 ⟨wr.heap.size, 0, none⟩ 1 1 [.bool n, .slice q d g] rfl rfl hnews (by intro u hu; simp at hu; rcases hu with rfl | rfl <;> rfl) (by simp [maxLen]; omega) (by omega) (by omega) ?_; intro v5 w5 ho5 hg5 _)
      go_roundw
      case rel => exact ⟨k + 1, _, by omega, by go_num, ho5, hid (by rw [Htk.out]; exact hC.out.snoc Hr.out), hid ((hB.out.trans (Bn.out.mono hlw)).grown hg5 (by omega) (fun g hg => (World.ownsRow.lt ho4 g hg).1))⟩
      case measure => simp [intOf] <;> omega
    · obtain rfl : k = al.length := by omega
      have hbw := hid (bel_go hB.out B0.out)
      have hown : NumsOwn W.heap.size wr _ (al.map (vlAt known)) := ⟨cs, by rw [List.length_map]; exact ho, by have := hC.out; rw [List.take_length] at this; exact this.below hbw.out⟩
      obtain ⟨po, co, rfl⟩ := ownsRow_shape ho
      have HL := hid hown.in
      have HO := hid (fun k (h : (Value.slice po al.length co).ownBlock = some k) => (World.ownsRow.lt ho k h).1)
      have F0 := hid ((hB.out.block w.heap.size (by have := Z3.out; omega)).trans E0.out)
      have F1 := hid ((hB.out.block (w.heap.size + 1) (by have := Z3.out; omega)).trans E1.out)
      have F2 := hid ((hB.out.block (w.heap.size + 1 + 1) (by have := Z3.out; omega)).trans E2.out)
      have HP : Hid (Pair wr (w.heap.size + 1 + 1 + 1) 44) := hid ⟨_, _, _, _, (hB.out.block (w.heap.size + 1 + 1 + 1) (by have := Z3.out; omega)).trans E3.out⟩
      have hsz : w.heap.size + 1 + 1 + 1 < wr.heap.size := by have := Z3.out; have := hB.out.size; omega
      have hop : wr.cell? ⟨w.heap.size + 1 + 1, 0, none⟩ = some (.int .i64 2) := by have := F2.out; simp [World.cell?, this]
      generalize al.map (vlAt known) = l at *
      clear x1 hown ho hC B0 E0 E1 E2 E3 H1 K4 J4 Ha
      have Hlp2 : Hid (l.length = al.length) := Hlp
      rw [← Hlp2.out] at HL ⊢
      clear Hlp
      have hq := HP.out.cells
      obtain ⟨_, _, q0, q1, q2, q3⟩ := hq
      go_wp2
      exact bodyPost_ret (v := .agg #[.bool false, .slice none 0 0]) (by simp [results, Tryz.results53, go_sem, q0, q1]) rfl ⟨_, rfl, by rw [Hrr.out]; exact (IntAt.zero _).raw (by show sz Big.W 0 ≤ _; rw [sz_zero]; omega), Below.stored hbw.out (by omega) _ _⟩
end Go.Proofs.YtckkpolikdnilaaGreatDoor
/- elenchusref05.One of Op 3. -/
namespace Go.Proofs.YtckkpolikdnilaaGreatDoor
open Go.RowKit Big Go.WideMaps

set_option maxRecDepth 100000 in
set_option maxHeartbeats 12800000 in
theorem One_num (vs v0 vm vt vk : Value) (syms : List Sy) (ts : List Tb5) (t : Tm) (known : List Int) (w : World) (hs : SyIn w vs syms) (hv : ∃ p n c, v0 = .slice p n c) (hm : TabsIn w vm ts) (h0 : TmRaw w vt t) (h1 : NumsIn w vk known) (ha : ∀ a ∈ t.args, 0 ≤ a ∧ a < known.length) (hn : t.args.length ≤ 1048576)
    (hop : t.op = 3) (rr : Int) (hrr : rr = t.num) :
    Calls Tryz.prog 53 #[.agg #[vs, v0], .agg #[vm], vt, vk] w (RRaw rr w) := by
  have Hrr := hid hrr
  clear hrr
  obtain ⟨i0, hi, hz0, hz1, hz2⟩ := info_parts infoNum
  obtain ⟨p9, n9, c9, rfl⟩ := hv
  obtain ⟨pa, ca, bb, pm, nm, cm, rfl, hA, hN⟩ := h0
  obtain ⟨pa', ca', e, j1, j2, -, j4⟩ := hA
  injection e with e1 e2 e3
  subst e1 e3
  clear e2
  have J4 := hid j4
  have H1 := hid h1
  have Ha := hid ha
  have HS := hid hs; have HM := hid hm; have HN := hid hN
  obtain ⟨pk, ck, rfl, k1, k2, -, k4⟩ := h1
  obtain ⟨ps, cps, rfl, s1, s2, -, -⟩ := hs
  obtain ⟨pq, cpq, rfl, q1, q2, -, -⟩ := hm
  have K4 := hid k4
  unfold maxLen at j2 k2 s2 q2
  obtain ⟨W, hW⟩ : ∃ W, W = ((((w.alloc (.cells #[.slice ps syms.length cps, .slice p9 n9 c9] 25)).alloc (.cells #[.slice pq ts.length cpq] 28)).alloc (.cells #[.int .i64 t.op, .slice pa t.args.length ca, .bool bb, .slice pm nm cm, .int .i64 t.sym] 71)).alloc (.cells #[.bool false, .slice none 0 0] 44)) := ⟨_, rfl⟩
  have b0 : Below w.heap.size w W := by rw [hW]; exact (((below1 w _).alloc (by simp) _).alloc (by simp; omega) _).alloc (by simp; omega) _
  have e0 : W.heap[w.heap.size]? = some (.cells #[.slice ps syms.length cps, .slice p9 n9 c9] 25 (0, 0)) := by rw [hW]; exact alloc_keep (alloc_keep (alloc_keep (alloc_at _ _ _ rfl)))
  have e1 : W.heap[w.heap.size + 1]? = some (.cells #[.slice pq ts.length cpq] 28 (0, 0)) := by rw [hW]; exact alloc_keep (alloc_keep (alloc_at _ _ _ (by rw [size_alloc])))
  have e2 : W.heap[w.heap.size + 1 + 1]? = some (.cells #[.int .i64 t.op, .slice pa t.args.length ca, .bool bb, .slice pm nm cm, .int .i64 t.sym] 71 (0, 0)) := by rw [hW]; exact alloc_keep (alloc_at _ _ _ (by rw [size_alloc, size_alloc]))
  have e3 : W.heap[w.heap.size + 1 + 1 + 1]? = some (.cells #[.bool false, .slice none 0 0] 44 (0, 0)) := by rw [hW]; exact alloc_at _ _ _ (by rw [size_alloc, size_alloc, size_alloc])
  have z3 : W.heap.size = w.heap.size + 1 + 1 + 1 + 1 := by rw [hW, size_alloc, size_alloc, size_alloc, size_alloc]
  have x1 : W.cell? ⟨w.heap.size + 1 + 1, 1, none⟩ = some (.slice pa t.args.length ca) := rec5_cell e2
  have B0 := hid b0; have E0 := hid e0; have E1 := hid e1; have E2 := hid e2; have E3 := hid e3; have Z3 := hid z3
  have Hlp : Hid ((vlParts t known).length = t.args.length) := hid (by simp [vlParts])
  unfold vlParts at *
  clear j4 k4 ha b0 e0 e1 e2 e3 z3 hN s1 s2 q1 q2
  obtain ⟨op, al, num, sym⟩ := t
  dsimp only at *
  subst hop
  go_enter Tryz.func53, Tryz.ntmps53
  go_upto_region 2 with fail
  rw [← hW]
  clear hW
  go_wp2_with fail
  have hzw : w.heap.size < W.heap.size := by have := Z3.out; omega
  go_loopw [9, 20] (fun o i wr => ∃ (k : Nat) (cs : List Value), k ≤ al.length ∧ i = .int .i64 (k : Nat) ∧ wr.ownsRow W.heap.size 44 2 o k cs ∧ Hid (VlCells w ((al.take k).map (vlAt known)) cs) ∧ Hid (Below W.heap.size W wr)) (fun _ i _ => al.length - (intOf i).toNat)
  case atStart => exact ⟨0, [], Nat.zero_le _, rfl, World.ownsRow_nil .., hid rfl, hid (Below.refl _ _)⟩
  case round =>
    obtain ⟨k, cs, hk, rfl, ho, hC, hB⟩ := hrel
    by_cases hlt : k < al.length
    · have hbw := hid (bel_go hB.out B0.out)
      obtain ⟨ba, oa, rfl, hba, hca⟩ := J4.out (by omega)
      have ka := (hbw.out.cell (p := ⟨ba, oa + k, none⟩) hba).trans (hca k hlt)
      obtain ⟨hj0, hj1⟩ := Ha.out al[k] (List.getElem_mem hlt)
      obtain ⟨j, hj⟩ : ∃ j : Nat, al[k] = (j : Nat) := ⟨al[k].toNat, by omega⟩
      have hjk : j < known.length := by omega
      have hjk' : (j : Int) < (known.length : Int) := by omega
      obtain ⟨bk, ok, rfl, hbk, hck⟩ := K4.out (by omega)
      obtain ⟨n, s, c0, c1, hr⟩ := hck j hjk
      obtain ⟨q, d, g, rfl⟩ := hr.shape
      have m0 := (hbw.out.cell (p := ⟨bk, ok + j * 2, none⟩) hbk).trans c0
      have m1 := (hbw.out.cell (p := ⟨bk, ok + j * 2 + 1, none⟩) hbk).trans c1
      rw [hj] at ka
      have Htk := hid (show (al.take (k+1)).map (vlAt known) = (al.take k).map (vlAt known) ++ [known[j]] from by rw [List.take_succ_eq_append_getElem hlt, List.map_append, List.map_singleton, hj, vlAt_nat known j hjk])
      have Hr := hid hr
      have bn := below1 wr (.cells #[.bool n, .slice q d g] 44)
      have ho4 := ownsRow_later ho bn
      have hz4 := size_alloc wr (.cells #[.bool n, .slice q d g] 44)
      have hnew := heap_alloc_new wr (.cells #[.bool n, .slice q d g] 44)
      have hnews : ∀ j u, ([.bool n, .slice q d g] : List Value)[j]? = some u → (wr.alloc (.cells #[.bool n, .slice q d g] 44)).cell? ((⟨wr.heap.size, 0, none⟩ : Addr).add j) = some u := by
        intro j u hj
        rw [Go.WideShapes.add_plain, Nat.zero_add, cell_of_row _ _ _ _ _ _ hnew]
        simpa using hj
      have hlw := hB.out.size
      have Bn := hid bn
      clear hck hca c0 c1 hr hj0 hj1 hj hba hbk bn ho hnew
      go_wp2_with (at_builtin; refine wpList_append_own _ rfl _ _ 32 rfl W.heap.size 44 i0 _ 2 32 Tryz.underlying32 hi hz0 hz1 hz2 rfl (by decide) _ k _ rfl ho4 ⟨wr.heap.size, 0, none⟩ 1 1 [.bool n, .slice q d g] rfl rfl hnews (by intro u hu; simp at hu; rcases hu with rfl | rfl <;> rfl) (by simp [maxLen]; omega) (by omega) (by omega) ?_; intro v5 w5 ho5 hg5 _)
      go_roundw
      case rel => exact ⟨k + 1, _, by omega, by go_num, ho5, hid (by rw [Htk.out]; exact hC.out.snoc Hr.out), hid ((hB.out.trans (Bn.out.mono hlw)).grown hg5 (by omega) (fun g hg => (World.ownsRow.lt ho4 g hg).1))⟩
      case measure => simp [intOf] <;> omega
    · obtain rfl : k = al.length := by omega
      have hbw := hid (bel_go hB.out B0.out)
      have hown : NumsOwn W.heap.size wr _ (al.map (vlAt known)) := ⟨cs, by rw [List.length_map]; exact ho, by have := hC.out; rw [List.take_length] at this; exact this.below hbw.out⟩
      obtain ⟨po, co, rfl⟩ := ownsRow_shape ho
      have HL := hid hown.in
      have HO := hid (fun k (h : (Value.slice po al.length co).ownBlock = some k) => (World.ownsRow.lt ho k h).1)
      have F0 := hid ((hB.out.block w.heap.size (by have := Z3.out; omega)).trans E0.out)
      have F1 := hid ((hB.out.block (w.heap.size + 1) (by have := Z3.out; omega)).trans E1.out)
      have F2 := hid ((hB.out.block (w.heap.size + 1 + 1) (by have := Z3.out; omega)).trans E2.out)
      have HP : Hid (Pair wr (w.heap.size + 1 + 1 + 1) 44) := hid ⟨_, _, _, _, (hB.out.block (w.heap.size + 1 + 1 + 1) (by have := Z3.out; omega)).trans E3.out⟩
      have hsz : w.heap.size + 1 + 1 + 1 < wr.heap.size := by have := Z3.out; have := hB.out.size; omega
      have hop : wr.cell? ⟨w.heap.size + 1 + 1, 0, none⟩ = some (.int .i64 3) := by have := F2.out; simp [World.cell?, this]
      generalize al.map (vlAt known) = l at *
      clear x1 hown ho hC B0 E0 E1 E2 E3 H1 K4 J4 Ha
      have Hlp2 : Hid (l.length = al.length) := Hlp
      rw [← Hlp2.out] at HL ⊢
      clear Hlp
      have h2 : wr.cell? ⟨w.heap.size + 1 + 1, 2, none⟩ = some (.bool bb) := by have := F2.out; simp [World.cell?, this]
      have h3 : wr.cell? ⟨w.heap.size + 1 + 1, 3, none⟩ = some (.slice pm nm cm) := by have := F2.out; simp [World.cell?, this]
      have Hr := hid (HN.out.below hbw.out)
      have hq := HP.out.cells
      obtain ⟨_, _, q0, q1, q2, q3⟩ := hq
      go_wp2
      exact bodyPost_ret (v := .agg #[.bool bb, .slice pm nm cm]) (by simp [results, Tryz.results53, go_sem, q0, q1]) rfl ⟨_, rfl, by rw [Hrr.out]; exact Hr.out.set2 HP.out _ _ _ _ _ _ rfl rfl, Below.stored hbw.out (by omega) _ _⟩
end Go.Proofs.YtckkpolikdnilaaGreatDoor
/- elenchusref05.One of Op 5. -/
namespace Go.Proofs.YtckkpolikdnilaaGreatDoor
open Go.RowKit Big Go.WideMaps

set_option maxRecDepth 100000 in
set_option maxHeartbeats 12800000 in
theorem One_not (vs v0 vm vt vk : Value) (syms : List Sy) (ts : List Tb5) (t : Tm) (known : List Int) (w : World) (hs : SyIn w vs syms) (hv : ∃ p n c, v0 = .slice p n c) (hm : TabsIn w vm ts) (h0 : TmRaw w vt t) (h1 : NumsIn w vk known) (ha : ∀ a ∈ t.args, 0 ≤ a ∧ a < known.length) (hn : t.args.length ≤ 1048576)
    (hop : t.op = 5) (hl : 1 ≤ t.args.length) (rr : Int) (hrr : rr = vlTruth (!(vlAt (t.args.map (vlAt known)) 0 != 0))) :
    Calls Tryz.prog 53 #[.agg #[vs, v0], .agg #[vm], vt, vk] w (RRaw rr w) := by
  have Hrr := hid hrr
  clear hrr
  obtain ⟨i0, hi, hz0, hz1, hz2⟩ := info_parts infoNum
  obtain ⟨p9, n9, c9, rfl⟩ := hv
  obtain ⟨pa, ca, bb, pm, nm, cm, rfl, hA, hN⟩ := h0
  obtain ⟨pa', ca', e, j1, j2, -, j4⟩ := hA
  injection e with e1 e2 e3
  subst e1 e3
  clear e2
  have J4 := hid j4
  have H1 := hid h1
  have Ha := hid ha
  have HS := hid hs; have HM := hid hm; have HN := hid hN
  obtain ⟨pk, ck, rfl, k1, k2, -, k4⟩ := h1
  obtain ⟨ps, cps, rfl, s1, s2, -, -⟩ := hs
  obtain ⟨pq, cpq, rfl, q1, q2, -, -⟩ := hm
  have K4 := hid k4
  unfold maxLen at j2 k2 s2 q2
  obtain ⟨W, hW⟩ : ∃ W, W = ((((w.alloc (.cells #[.slice ps syms.length cps, .slice p9 n9 c9] 25)).alloc (.cells #[.slice pq ts.length cpq] 28)).alloc (.cells #[.int .i64 t.op, .slice pa t.args.length ca, .bool bb, .slice pm nm cm, .int .i64 t.sym] 71)).alloc (.cells #[.bool false, .slice none 0 0] 44)) := ⟨_, rfl⟩
  have b0 : Below w.heap.size w W := by rw [hW]; exact (((below1 w _).alloc (by simp) _).alloc (by simp; omega) _).alloc (by simp; omega) _
  have e0 : W.heap[w.heap.size]? = some (.cells #[.slice ps syms.length cps, .slice p9 n9 c9] 25 (0, 0)) := by rw [hW]; exact alloc_keep (alloc_keep (alloc_keep (alloc_at _ _ _ rfl)))
  have e1 : W.heap[w.heap.size + 1]? = some (.cells #[.slice pq ts.length cpq] 28 (0, 0)) := by rw [hW]; exact alloc_keep (alloc_keep (alloc_at _ _ _ (by rw [size_alloc])))
  have e2 : W.heap[w.heap.size + 1 + 1]? = some (.cells #[.int .i64 t.op, .slice pa t.args.length ca, .bool bb, .slice pm nm cm, .int .i64 t.sym] 71 (0, 0)) := by rw [hW]; exact alloc_keep (alloc_at _ _ _ (by rw [size_alloc, size_alloc]))
  have e3 : W.heap[w.heap.size + 1 + 1 + 1]? = some (.cells #[.bool false, .slice none 0 0] 44 (0, 0)) := by rw [hW]; exact alloc_at _ _ _ (by rw [size_alloc, size_alloc, size_alloc])
  have z3 : W.heap.size = w.heap.size + 1 + 1 + 1 + 1 := by rw [hW, size_alloc, size_alloc, size_alloc, size_alloc]
  have x1 : W.cell? ⟨w.heap.size + 1 + 1, 1, none⟩ = some (.slice pa t.args.length ca) := rec5_cell e2
  have B0 := hid b0; have E0 := hid e0; have E1 := hid e1; have E2 := hid e2; have E3 := hid e3; have Z3 := hid z3
  have Hlp : Hid ((vlParts t known).length = t.args.length) := hid (by simp [vlParts])
  unfold vlParts at *
  clear j4 k4 ha b0 e0 e1 e2 e3 z3 hN s1 s2 q1 q2
  obtain ⟨op, al, num, sym⟩ := t
  dsimp only at *
  subst hop
  go_enter Tryz.func53, Tryz.ntmps53
  go_upto_region 2 with fail
  rw [← hW]
  clear hW
  go_wp2_with fail
  have hzw : w.heap.size < W.heap.size := by have := Z3.out; omega
  go_loopw [9, 20] (fun o i wr => ∃ (k : Nat) (cs : List Value), k ≤ al.length ∧ i = .int .i64 (k : Nat) ∧ wr.ownsRow W.heap.size 44 2 o k cs ∧ Hid (VlCells w ((al.take k).map (vlAt known)) cs) ∧ Hid (Below W.heap.size W wr)) (fun _ i _ => al.length - (intOf i).toNat)
  case atStart => exact ⟨0, [], Nat.zero_le _, rfl, World.ownsRow_nil .., hid rfl, hid (Below.refl _ _)⟩
  case round =>
    obtain ⟨k, cs, hk, rfl, ho, hC, hB⟩ := hrel
    by_cases hlt : k < al.length
    · have hbw := hid (bel_go hB.out B0.out)
      obtain ⟨ba, oa, rfl, hba, hca⟩ := J4.out (by omega)
      have ka := (hbw.out.cell (p := ⟨ba, oa + k, none⟩) hba).trans (hca k hlt)
      obtain ⟨hj0, hj1⟩ := Ha.out al[k] (List.getElem_mem hlt)
      obtain ⟨j, hj⟩ : ∃ j : Nat, al[k] = (j : Nat) := ⟨al[k].toNat, by omega⟩
      have hjk : j < known.length := by omega
      have hjk' : (j : Int) < (known.length : Int) := by omega
      obtain ⟨bk, ok, rfl, hbk, hck⟩ := K4.out (by omega)
      obtain ⟨n, s, c0, c1, hr⟩ := hck j hjk
      obtain ⟨q, d, g, rfl⟩ := hr.shape
      have m0 := (hbw.out.cell (p := ⟨bk, ok + j * 2, none⟩) hbk).trans c0
      have m1 := (hbw.out.cell (p := ⟨bk, ok + j * 2 + 1, none⟩) hbk).trans c1
      rw [hj] at ka
      have Htk := hid (show (al.take (k+1)).map (vlAt known) = (al.take k).map (vlAt known) ++ [known[j]] from by rw [List.take_succ_eq_append_getElem hlt, List.map_append, List.map_singleton, hj, vlAt_nat known j hjk])
      have Hr := hid hr
      have bn := below1 wr (.cells #[.bool n, .slice q d g] 44)
      have ho4 := ownsRow_later ho bn
      have hz4 := size_alloc wr (.cells #[.bool n, .slice q d g] 44)
      have hnew := heap_alloc_new wr (.cells #[.bool n, .slice q d g] 44)
      have hnews : ∀ j u, ([.bool n, .slice q d g] : List Value)[j]? = some u → (wr.alloc (.cells #[.bool n, .slice q d g] 44)).cell? ((⟨wr.heap.size, 0, none⟩ : Addr).add j) = some u := by
        intro j u hj
        rw [Go.WideShapes.add_plain, Nat.zero_add, cell_of_row _ _ _ _ _ _ hnew]
        simpa using hj
      have hlw := hB.out.size
      have Bn := hid bn
      clear hck hca c0 c1 hr hj0 hj1 hj hba hbk bn ho hnew
      go_wp2_with (at_builtin; refine wpList_append_own _ rfl _ _ 32 rfl W.heap.size 44 i0 _ 2 32 Tryz.underlying32 hi hz0 hz1 hz2 rfl (by decide) _ k _ rfl ho4 ⟨wr.heap.size, 0, none⟩ 1 1 [.bool n, .slice q d g] rfl rfl hnews (by intro u hu; simp at hu; rcases hu with rfl | rfl <;> rfl) (by simp [maxLen]; omega) (by omega) (by omega) ?_; intro v5 w5 ho5 hg5 _)
      go_roundw
      case rel => exact ⟨k + 1, _, by omega, by go_num, ho5, hid (by rw [Htk.out]; exact hC.out.snoc Hr.out), hid ((hB.out.trans (Bn.out.mono hlw)).grown hg5 (by omega) (fun g hg => (World.ownsRow.lt ho4 g hg).1))⟩
      case measure => simp [intOf] <;> omega
    · obtain rfl : k = al.length := by omega
      have hbw := hid (bel_go hB.out B0.out)
      have hown : NumsOwn W.heap.size wr _ (al.map (vlAt known)) := ⟨cs, by rw [List.length_map]; exact ho, by have := hC.out; rw [List.take_length] at this; exact this.below hbw.out⟩
      obtain ⟨po, co, rfl⟩ := ownsRow_shape ho
      have HL := hid hown.in
      have HO := hid (fun k (h : (Value.slice po al.length co).ownBlock = some k) => (World.ownsRow.lt ho k h).1)
      have F0 := hid ((hB.out.block w.heap.size (by have := Z3.out; omega)).trans E0.out)
      have F1 := hid ((hB.out.block (w.heap.size + 1) (by have := Z3.out; omega)).trans E1.out)
      have F2 := hid ((hB.out.block (w.heap.size + 1 + 1) (by have := Z3.out; omega)).trans E2.out)
      have HP : Hid (Pair wr (w.heap.size + 1 + 1 + 1) 44) := hid ⟨_, _, _, _, (hB.out.block (w.heap.size + 1 + 1 + 1) (by have := Z3.out; omega)).trans E3.out⟩
      have hsz : w.heap.size + 1 + 1 + 1 < wr.heap.size := by have := Z3.out; have := hB.out.size; omega
      have hop : wr.cell? ⟨w.heap.size + 1 + 1, 0, none⟩ = some (.int .i64 5) := by have := F2.out; simp [World.cell?, this]
      generalize al.map (vlAt known) = l at *
      clear x1 hown ho hC B0 E0 E1 E2 E3 H1 K4 J4 Ha
      have Hlp2 : Hid (l.length = al.length) := Hlp
      rw [← Hlp2.out] at HL ⊢
      clear Hlp
      have hl := Hlp2.out
      have ha0 := HL.out.at 0 (by omega)
      obtain ⟨b5, o5, c5, x0, q0', d0, g0, e5, hb5, n0, k0', r0⟩ := ha0
      injection e5 with f1 _ f3
      subst f1 f3
      have m0 : wr.cell? ⟨b5, o5, none⟩ = some (.bool x0) := by simpa using n0
      have l0' : wr.cell? ⟨b5, o5 + 1, none⟩ = some (.slice q0' d0 g0) := by simpa using k0'
      have hl0 : (0 : Int) < (l.length : Int) := by omega
      have hal0 : (0 : Int) < (al.length : Int) := by omega
      have hln : 0 < l.length := by omega
      have haln : 0 < al.length := by omega
      have hv : vlAt l 0 = l[0] := by unfold vlAt; simp [show (0 : Int).toNat = 0 from rfl, List.getElem?_eq_getElem (show 0 < l.length by omega)]
      rw [hv] at Hrr
      have Hsure := hid (sure_any _ _ wr r0)
      clear hv r0 n0 k0'
      generalize (l[0] != 0) = bz at *
      go_wp2_with fail
      refine Hsure.out.mono ?_
      rintro e w1 ⟨rfl, b1⟩
      have hbw1 := hid (bel_go b1 hbw.out)
      have HP1 := hid (HP.out.below b1)
      clear m0 l0' b1
      have Hc := hid (rtruth_any (!bz) w1)
      go_wp2_with fail
      refine Hc.out.mono ?_
      rintro e w2 ⟨v2, rfl, hi2, b2⟩
      obtain ⟨p2, n2, c2, rfl, hi2⟩ := hi2.shape
      have hpr := hid (HP1.out.below b2)
      have hq := hpr.out.cells
      obtain ⟨_, _, q0, q1, q2, q3⟩ := hq
      have Hi := hid hi2; have Hb := hid (bel_go b2 hbw1.out)
      clear hi2 b2 Hc
      go_wp2
      exact bodyPost_ret (v := .agg #[.bool (decide (vlTruth (!bz) < 0)), .slice p2 n2 c2]) (by simp [results, Tryz.results53, go_sem, q0, q1]) rfl ⟨_, rfl, by rw [Hrr.out]; exact (IntAt.raw (Hi.out.stored hpr.out _ _ _ _) (truth_fit _)), Below.stored Hb.out (by omega) _ _⟩
end Go.Proofs.YtckkpolikdnilaaGreatDoor
/- elenchusref05.One of Op 9. -/
namespace Go.Proofs.YtckkpolikdnilaaGreatDoor
open Go.RowKit Big Go.WideMaps

set_option maxRecDepth 100000 in
set_option maxHeartbeats 12800000 in
theorem One_ite (vs v0 vm vt vk : Value) (syms : List Sy) (ts : List Tb5) (t : Tm) (known : List Int) (w : World) (hs : SyIn w vs syms) (hv : ∃ p n c, v0 = .slice p n c) (hm : TabsIn w vm ts) (h0 : TmRaw w vt t) (h1 : NumsIn w vk known) (ha : ∀ a ∈ t.args, 0 ≤ a ∧ a < known.length) (hn : t.args.length ≤ 1048576)
    (hop : t.op = 9) (hl : 3 ≤ t.args.length) (rr : Int) (hrr : rr = if vlAt (t.args.map (vlAt known)) 0 ≠ 0 then vlAt (t.args.map (vlAt known)) 1 else vlAt (t.args.map (vlAt known)) 2) :
    Calls Tryz.prog 53 #[.agg #[vs, v0], .agg #[vm], vt, vk] w (RRaw rr w) := by
  have Hrr := hid hrr
  clear hrr
  obtain ⟨i0, hi, hz0, hz1, hz2⟩ := info_parts infoNum
  obtain ⟨p9, n9, c9, rfl⟩ := hv
  obtain ⟨pa, ca, bb, pm, nm, cm, rfl, hA, hN⟩ := h0
  obtain ⟨pa', ca', e, j1, j2, -, j4⟩ := hA
  injection e with e1 e2 e3
  subst e1 e3
  clear e2
  have J4 := hid j4
  have H1 := hid h1
  have Ha := hid ha
  have HS := hid hs; have HM := hid hm; have HN := hid hN
  obtain ⟨pk, ck, rfl, k1, k2, -, k4⟩ := h1
  obtain ⟨ps, cps, rfl, s1, s2, -, -⟩ := hs
  obtain ⟨pq, cpq, rfl, q1, q2, -, -⟩ := hm
  have K4 := hid k4
  unfold maxLen at j2 k2 s2 q2
  obtain ⟨W, hW⟩ : ∃ W, W = ((((w.alloc (.cells #[.slice ps syms.length cps, .slice p9 n9 c9] 25)).alloc (.cells #[.slice pq ts.length cpq] 28)).alloc (.cells #[.int .i64 t.op, .slice pa t.args.length ca, .bool bb, .slice pm nm cm, .int .i64 t.sym] 71)).alloc (.cells #[.bool false, .slice none 0 0] 44)) := ⟨_, rfl⟩
  have b0 : Below w.heap.size w W := by rw [hW]; exact (((below1 w _).alloc (by simp) _).alloc (by simp; omega) _).alloc (by simp; omega) _
  have e0 : W.heap[w.heap.size]? = some (.cells #[.slice ps syms.length cps, .slice p9 n9 c9] 25 (0, 0)) := by rw [hW]; exact alloc_keep (alloc_keep (alloc_keep (alloc_at _ _ _ rfl)))
  have e1 : W.heap[w.heap.size + 1]? = some (.cells #[.slice pq ts.length cpq] 28 (0, 0)) := by rw [hW]; exact alloc_keep (alloc_keep (alloc_at _ _ _ (by rw [size_alloc])))
  have e2 : W.heap[w.heap.size + 1 + 1]? = some (.cells #[.int .i64 t.op, .slice pa t.args.length ca, .bool bb, .slice pm nm cm, .int .i64 t.sym] 71 (0, 0)) := by rw [hW]; exact alloc_keep (alloc_at _ _ _ (by rw [size_alloc, size_alloc]))
  have e3 : W.heap[w.heap.size + 1 + 1 + 1]? = some (.cells #[.bool false, .slice none 0 0] 44 (0, 0)) := by rw [hW]; exact alloc_at _ _ _ (by rw [size_alloc, size_alloc, size_alloc])
  have z3 : W.heap.size = w.heap.size + 1 + 1 + 1 + 1 := by rw [hW, size_alloc, size_alloc, size_alloc, size_alloc]
  have x1 : W.cell? ⟨w.heap.size + 1 + 1, 1, none⟩ = some (.slice pa t.args.length ca) := rec5_cell e2
  have B0 := hid b0; have E0 := hid e0; have E1 := hid e1; have E2 := hid e2; have E3 := hid e3; have Z3 := hid z3
  have Hlp : Hid ((vlParts t known).length = t.args.length) := hid (by simp [vlParts])
  unfold vlParts at *
  clear j4 k4 ha b0 e0 e1 e2 e3 z3 hN s1 s2 q1 q2
  obtain ⟨op, al, num, sym⟩ := t
  dsimp only at *
  subst hop
  go_enter Tryz.func53, Tryz.ntmps53
  go_upto_region 2 with fail
  rw [← hW]
  clear hW
  go_wp2_with fail
  have hzw : w.heap.size < W.heap.size := by have := Z3.out; omega
  go_loopw [9, 20] (fun o i wr => ∃ (k : Nat) (cs : List Value), k ≤ al.length ∧ i = .int .i64 (k : Nat) ∧ wr.ownsRow W.heap.size 44 2 o k cs ∧ Hid (VlCells w ((al.take k).map (vlAt known)) cs) ∧ Hid (Below W.heap.size W wr)) (fun _ i _ => al.length - (intOf i).toNat)
  case atStart => exact ⟨0, [], Nat.zero_le _, rfl, World.ownsRow_nil .., hid rfl, hid (Below.refl _ _)⟩
  case round =>
    obtain ⟨k, cs, hk, rfl, ho, hC, hB⟩ := hrel
    by_cases hlt : k < al.length
    · have hbw := hid (bel_go hB.out B0.out)
      obtain ⟨ba, oa, rfl, hba, hca⟩ := J4.out (by omega)
      have ka := (hbw.out.cell (p := ⟨ba, oa + k, none⟩) hba).trans (hca k hlt)
      obtain ⟨hj0, hj1⟩ := Ha.out al[k] (List.getElem_mem hlt)
      obtain ⟨j, hj⟩ : ∃ j : Nat, al[k] = (j : Nat) := ⟨al[k].toNat, by omega⟩
      have hjk : j < known.length := by omega
      have hjk' : (j : Int) < (known.length : Int) := by omega
      obtain ⟨bk, ok, rfl, hbk, hck⟩ := K4.out (by omega)
      obtain ⟨n, s, c0, c1, hr⟩ := hck j hjk
      obtain ⟨q, d, g, rfl⟩ := hr.shape
      have m0 := (hbw.out.cell (p := ⟨bk, ok + j * 2, none⟩) hbk).trans c0
      have m1 := (hbw.out.cell (p := ⟨bk, ok + j * 2 + 1, none⟩) hbk).trans c1
      rw [hj] at ka
      have Htk := hid (show (al.take (k+1)).map (vlAt known) = (al.take k).map (vlAt known) ++ [known[j]] from by rw [List.take_succ_eq_append_getElem hlt, List.map_append, List.map_singleton, hj, vlAt_nat known j hjk])
      have Hr := hid hr
      have bn := below1 wr (.cells #[.bool n, .slice q d g] 44)
      have ho4 := ownsRow_later ho bn
      have hz4 := size_alloc wr (.cells #[.bool n, .slice q d g] 44)
      have hnew := heap_alloc_new wr (.cells #[.bool n, .slice q d g] 44)
      have hnews : ∀ j u, ([.bool n, .slice q d g] : List Value)[j]? = some u → (wr.alloc (.cells #[.bool n, .slice q d g] 44)).cell? ((⟨wr.heap.size, 0, none⟩ : Addr).add j) = some u := by
        intro j u hj
        rw [Go.WideShapes.add_plain, Nat.zero_add, cell_of_row _ _ _ _ _ _ hnew]
        simpa using hj
      have hlw := hB.out.size
      have Bn := hid bn
      clear hck hca c0 c1 hr hj0 hj1 hj hba hbk bn ho hnew
      go_wp2_with (at_builtin; refine wpList_append_own _ rfl _ _ 32 rfl W.heap.size 44 i0 _ 2 32 Tryz.underlying32 hi hz0 hz1 hz2 rfl (by decide) _ k _ rfl ho4 ⟨wr.heap.size, 0, none⟩ 1 1 [.bool n, .slice q d g] rfl rfl hnews (by intro u hu; simp at hu; rcases hu with rfl | rfl <;> rfl) (by simp [maxLen]; omega) (by omega) (by omega) ?_; intro v5 w5 ho5 hg5 _)
      go_roundw
      case rel => exact ⟨k + 1, _, by omega, by go_num, ho5, hid (by rw [Htk.out]; exact hC.out.snoc Hr.out), hid ((hB.out.trans (Bn.out.mono hlw)).grown hg5 (by omega) (fun g hg => (World.ownsRow.lt ho4 g hg).1))⟩
      case measure => simp [intOf] <;> omega
    · obtain rfl : k = al.length := by omega
      have hbw := hid (bel_go hB.out B0.out)
      have hown : NumsOwn W.heap.size wr _ (al.map (vlAt known)) := ⟨cs, by rw [List.length_map]; exact ho, by have := hC.out; rw [List.take_length] at this; exact this.below hbw.out⟩
      obtain ⟨po, co, rfl⟩ := ownsRow_shape ho
      have HL := hid hown.in
      have HO := hid (fun k (h : (Value.slice po al.length co).ownBlock = some k) => (World.ownsRow.lt ho k h).1)
      have F0 := hid ((hB.out.block w.heap.size (by have := Z3.out; omega)).trans E0.out)
      have F1 := hid ((hB.out.block (w.heap.size + 1) (by have := Z3.out; omega)).trans E1.out)
      have F2 := hid ((hB.out.block (w.heap.size + 1 + 1) (by have := Z3.out; omega)).trans E2.out)
      have HP : Hid (Pair wr (w.heap.size + 1 + 1 + 1) 44) := hid ⟨_, _, _, _, (hB.out.block (w.heap.size + 1 + 1 + 1) (by have := Z3.out; omega)).trans E3.out⟩
      have hsz : w.heap.size + 1 + 1 + 1 < wr.heap.size := by have := Z3.out; have := hB.out.size; omega
      have hop : wr.cell? ⟨w.heap.size + 1 + 1, 0, none⟩ = some (.int .i64 9) := by have := F2.out; simp [World.cell?, this]
      generalize al.map (vlAt known) = l at *
      clear x1 hown ho hC B0 E0 E1 E2 E3 H1 K4 J4 Ha
      have Hlp2 : Hid (l.length = al.length) := Hlp
      rw [← Hlp2.out] at HL ⊢
      clear Hlp
      have hl := Hlp2.out
      have ha0 := HL.out.at 0 (by omega)
      obtain ⟨b5, o5, c5, x0, q0', d0, g0, e5, hb5, n0, k0', r0⟩ := ha0
      injection e5 with f1 _ f3
      subst f1 f3
      have m0 : wr.cell? ⟨b5, o5, none⟩ = some (.bool x0) := by simpa using n0
      have l0' : wr.cell? ⟨b5, o5 + 1, none⟩ = some (.slice q0' d0 g0) := by simpa using k0'
      have hl0 : (0 : Int) < (l.length : Int) := by omega
      have hal0 : (0 : Int) < (al.length : Int) := by omega
      have ha1 := HL.out.at 1 (by omega)
      obtain ⟨b7, o7, c6, x1, q1', d1, g1, e6, hb7, n1, k1', r1⟩ := ha1
      injection e6 with f1 _ f3
      injection f1 with f1
      injection f1 with f5 f6
      subst f5 f6 f3
      have m1 : wr.cell? ⟨b5, o5 + 2, none⟩ = some (.bool x1) := n1
      have l1' : wr.cell? ⟨b5, o5 + 2 + 1, none⟩ = some (.slice q1' d1 g1) := k1'
      have hl1 : (1 : Int) < (l.length : Int) := by omega
      have hal1 : (1 : Int) < (al.length : Int) := by omega
      have hln : 0 < l.length := by omega
      have haln : 0 < al.length := by omega
      have ha2 := HL.out.at 2 (by omega)
      obtain ⟨b6, o6, c6, x2, q2', d2, g2, e6, hb6, n2, k2', r2⟩ := ha2
      injection e6 with f1 _ f3
      injection f1 with f1
      injection f1 with f5 f6
      subst f5 f6 f3
      have m2 : wr.cell? ⟨b5, o5 + 4, none⟩ = some (.bool x2) := n2
      have l2' : wr.cell? ⟨b5, o5 + 4 + 1, none⟩ = some (.slice q2' d2 g2) := k2'
      have hl2 : (2 : Int) < (l.length : Int) := by omega
      have hv : vlAt l 0 = l[0] ∧ vlAt l 1 = l[1] ∧ vlAt l 2 = l[2] := by
        refine ⟨?_, ?_, ?_⟩ <;> unfold vlAt
        · simp [show (0 : Int).toNat = 0 from rfl, List.getElem?_eq_getElem (show 0 < l.length by omega)]
        · simp [show (1 : Int).toNat = 1 from rfl, List.getElem?_eq_getElem (show 1 < l.length by omega)]
        · simp [show (2 : Int).toNat = 2 from rfl, List.getElem?_eq_getElem (show 2 < l.length by omega)]
      obtain ⟨hv0, hv1, hv2⟩ := hv
      rw [hv0, hv1, hv2] at Hrr
      have Hsure := hid (sure_any _ _ wr r0)
      have hb5 : b5 < wr.heap.size := hb5
      have R1 := hid r1; have R2 := hid r2
      clear hv0 hv1 hv2 r0 r1 r2 n0 n1 n2 k0' k1' k2' hb6 hb7
      generalize l[1] = y1 at *
      generalize l[2] = y2 at *
      by_cases hz : l[0] = 0
      · have hb : (l[0] != 0) = false := by simpa using hz
        rw [hb] at Hsure
        obtain rfl : rr = y2 := by rw [Hrr.out, if_neg (by simpa using hz)]
        go_wp2_with fail
        refine Hsure.out.mono ?_
        rintro e w1 ⟨rfl, b1⟩
        have hbw1 := hid (bel_go b1 hbw.out)
        have HP1 := hid (HP.out.below b1)
        have m2 := (b1.cell (p := ⟨b5, o5 + 4, none⟩) hb5).trans m2
        have l2' := (b1.cell (p := ⟨b5, o5 + 4 + 1, none⟩) hb5).trans l2'
        have Hr := hid (R2.out.below b1)
        clear m0 l0' m1 l1' b1
        have hq := HP1.out.cells
        obtain ⟨_, _, q0, q1, q2, q3⟩ := hq
        go_wp2
        exact bodyPost_ret (v := .agg #[.bool x2, .slice q2' d2 g2]) (by simp [results, Tryz.results53, go_sem, q0, q1]) rfl ⟨_, rfl, Hr.out.set2 HP1.out _ _ _ _ _ _ rfl rfl, Below.stored hbw1.out (by omega) _ _⟩
      · have hb : (l[0] != 0) = true := by simpa using hz
        rw [hb] at Hsure
        obtain rfl : rr = y1 := by rw [Hrr.out, if_pos hz]
        go_wp2_with fail
        refine Hsure.out.mono ?_
        rintro e w1 ⟨rfl, b1⟩
        have hbw1 := hid (bel_go b1 hbw.out)
        have HP1 := hid (HP.out.below b1)
        have m1 := (b1.cell (p := ⟨b5, o5 + 2, none⟩) hb5).trans m1
        have l1' := (b1.cell (p := ⟨b5, o5 + 2 + 1, none⟩) hb5).trans l1'
        have Hr := hid (R1.out.below b1)
        clear m0 l0' m2 l2' b1
        have hq := HP1.out.cells
        obtain ⟨_, _, q0, q1, q2, q3⟩ := hq
        go_wp2
        exact bodyPost_ret (v := .agg #[.bool x1, .slice q1' d1 g1]) (by simp [results, Tryz.results53, go_sem, q0, q1]) rfl ⟨_, rfl, Hr.out.set2 HP1.out _ _ _ _ _ _ rfl rfl, Below.stored hbw1.out (by omega) _ _⟩
end Go.Proofs.YtckkpolikdnilaaGreatDoor
/- elenchusref05.One of Op 10. -/
namespace Go.Proofs.YtckkpolikdnilaaGreatDoor
open Go.RowKit Big Go.WideMaps

set_option maxRecDepth 100000 in
set_option maxHeartbeats 12800000 in
theorem One_eq (vs v0 vm vt vk : Value) (syms : List Sy) (ts : List Tb5) (t : Tm) (known : List Int) (w : World) (hs : SyIn w vs syms) (hv : ∃ p n c, v0 = .slice p n c) (hm : TabsIn w vm ts) (h0 : TmRaw w vt t) (h1 : NumsIn w vk known) (ha : ∀ a ∈ t.args, 0 ≤ a ∧ a < known.length) (hn : t.args.length ≤ 1048576)
    (hop : t.op = 10) (hl : 2 ≤ t.args.length) (hfit : ∀ z ∈ t.args.map (vlAt known), sz Big.W z.natAbs ≤ 549755813888) (rr : Int) (hrr : rr = vlTruth (decide (vlAt (t.args.map (vlAt known)) 0 = vlAt (t.args.map (vlAt known)) 1))) :
    Calls Tryz.prog 53 #[.agg #[vs, v0], .agg #[vm], vt, vk] w (RRaw rr w) := by
  have Hrr := hid hrr
  clear hrr
  obtain ⟨i0, hi, hz0, hz1, hz2⟩ := info_parts infoNum
  obtain ⟨p9, n9, c9, rfl⟩ := hv
  obtain ⟨pa, ca, bb, pm, nm, cm, rfl, hA, hN⟩ := h0
  obtain ⟨pa', ca', e, j1, j2, -, j4⟩ := hA
  injection e with e1 e2 e3
  subst e1 e3
  clear e2
  have J4 := hid j4
  have H1 := hid h1
  have Ha := hid ha
  have HS := hid hs; have HM := hid hm; have HN := hid hN
  obtain ⟨pk, ck, rfl, k1, k2, -, k4⟩ := h1
  obtain ⟨ps, cps, rfl, s1, s2, -, -⟩ := hs
  obtain ⟨pq, cpq, rfl, q1, q2, -, -⟩ := hm
  have K4 := hid k4
  unfold maxLen at j2 k2 s2 q2
  obtain ⟨W, hW⟩ : ∃ W, W = ((((w.alloc (.cells #[.slice ps syms.length cps, .slice p9 n9 c9] 25)).alloc (.cells #[.slice pq ts.length cpq] 28)).alloc (.cells #[.int .i64 t.op, .slice pa t.args.length ca, .bool bb, .slice pm nm cm, .int .i64 t.sym] 71)).alloc (.cells #[.bool false, .slice none 0 0] 44)) := ⟨_, rfl⟩
  have b0 : Below w.heap.size w W := by rw [hW]; exact (((below1 w _).alloc (by simp) _).alloc (by simp; omega) _).alloc (by simp; omega) _
  have e0 : W.heap[w.heap.size]? = some (.cells #[.slice ps syms.length cps, .slice p9 n9 c9] 25 (0, 0)) := by rw [hW]; exact alloc_keep (alloc_keep (alloc_keep (alloc_at _ _ _ rfl)))
  have e1 : W.heap[w.heap.size + 1]? = some (.cells #[.slice pq ts.length cpq] 28 (0, 0)) := by rw [hW]; exact alloc_keep (alloc_keep (alloc_at _ _ _ (by rw [size_alloc])))
  have e2 : W.heap[w.heap.size + 1 + 1]? = some (.cells #[.int .i64 t.op, .slice pa t.args.length ca, .bool bb, .slice pm nm cm, .int .i64 t.sym] 71 (0, 0)) := by rw [hW]; exact alloc_keep (alloc_at _ _ _ (by rw [size_alloc, size_alloc]))
  have e3 : W.heap[w.heap.size + 1 + 1 + 1]? = some (.cells #[.bool false, .slice none 0 0] 44 (0, 0)) := by rw [hW]; exact alloc_at _ _ _ (by rw [size_alloc, size_alloc, size_alloc])
  have z3 : W.heap.size = w.heap.size + 1 + 1 + 1 + 1 := by rw [hW, size_alloc, size_alloc, size_alloc, size_alloc]
  have x1 : W.cell? ⟨w.heap.size + 1 + 1, 1, none⟩ = some (.slice pa t.args.length ca) := rec5_cell e2
  have B0 := hid b0; have E0 := hid e0; have E1 := hid e1; have E2 := hid e2; have E3 := hid e3; have Z3 := hid z3
  have Hlp : Hid ((vlParts t known).length = t.args.length) := hid (by simp [vlParts])
  unfold vlParts at *
  clear j4 k4 ha b0 e0 e1 e2 e3 z3 hN s1 s2 q1 q2
  obtain ⟨op, al, num, sym⟩ := t
  dsimp only at *
  subst hop
  have Hfit := hid hfit
  clear hfit
  go_enter Tryz.func53, Tryz.ntmps53
  go_upto_region 2 with fail
  rw [← hW]
  clear hW
  go_wp2_with fail
  have hzw : w.heap.size < W.heap.size := by have := Z3.out; omega
  go_loopw [9, 20] (fun o i wr => ∃ (k : Nat) (cs : List Value), k ≤ al.length ∧ i = .int .i64 (k : Nat) ∧ wr.ownsRow W.heap.size 44 2 o k cs ∧ Hid (VlCells w ((al.take k).map (vlAt known)) cs) ∧ Hid (Below W.heap.size W wr)) (fun _ i _ => al.length - (intOf i).toNat)
  case atStart => exact ⟨0, [], Nat.zero_le _, rfl, World.ownsRow_nil .., hid rfl, hid (Below.refl _ _)⟩
  case round =>
    obtain ⟨k, cs, hk, rfl, ho, hC, hB⟩ := hrel
    by_cases hlt : k < al.length
    · have hbw := hid (bel_go hB.out B0.out)
      obtain ⟨ba, oa, rfl, hba, hca⟩ := J4.out (by omega)
      have ka := (hbw.out.cell (p := ⟨ba, oa + k, none⟩) hba).trans (hca k hlt)
      obtain ⟨hj0, hj1⟩ := Ha.out al[k] (List.getElem_mem hlt)
      obtain ⟨j, hj⟩ : ∃ j : Nat, al[k] = (j : Nat) := ⟨al[k].toNat, by omega⟩
      have hjk : j < known.length := by omega
      have hjk' : (j : Int) < (known.length : Int) := by omega
      obtain ⟨bk, ok, rfl, hbk, hck⟩ := K4.out (by omega)
      obtain ⟨n, s, c0, c1, hr⟩ := hck j hjk
      obtain ⟨q, d, g, rfl⟩ := hr.shape
      have m0 := (hbw.out.cell (p := ⟨bk, ok + j * 2, none⟩) hbk).trans c0
      have m1 := (hbw.out.cell (p := ⟨bk, ok + j * 2 + 1, none⟩) hbk).trans c1
      rw [hj] at ka
      have Htk := hid (show (al.take (k+1)).map (vlAt known) = (al.take k).map (vlAt known) ++ [known[j]] from by rw [List.take_succ_eq_append_getElem hlt, List.map_append, List.map_singleton, hj, vlAt_nat known j hjk])
      have Hr := hid hr
      have bn := below1 wr (.cells #[.bool n, .slice q d g] 44)
      have ho4 := ownsRow_later ho bn
      have hz4 := size_alloc wr (.cells #[.bool n, .slice q d g] 44)
      have hnew := heap_alloc_new wr (.cells #[.bool n, .slice q d g] 44)
      have hnews : ∀ j u, ([.bool n, .slice q d g] : List Value)[j]? = some u → (wr.alloc (.cells #[.bool n, .slice q d g] 44)).cell? ((⟨wr.heap.size, 0, none⟩ : Addr).add j) = some u := by
        intro j u hj
        rw [Go.WideShapes.add_plain, Nat.zero_add, cell_of_row _ _ _ _ _ _ hnew]
        simpa using hj
      have hlw := hB.out.size
      have Bn := hid bn
      clear hck hca c0 c1 hr hj0 hj1 hj hba hbk bn ho hnew
      go_wp2_with (at_builtin; refine wpList_append_own _ rfl _ _ 32 rfl W.heap.size 44 i0 _ 2 32 Tryz.underlying32 hi hz0 hz1 hz2 rfl (by decide) _ k _ rfl ho4 ⟨wr.heap.size, 0, none⟩ 1 1 [.bool n, .slice q d g] rfl rfl hnews (by intro u hu; simp at hu; rcases hu with rfl | rfl <;> rfl) (by simp [maxLen]; omega) (by omega) (by omega) ?_; intro v5 w5 ho5 hg5 _)
      go_roundw
      case rel => exact ⟨k + 1, _, by omega, by go_num, ho5, hid (by rw [Htk.out]; exact hC.out.snoc Hr.out), hid ((hB.out.trans (Bn.out.mono hlw)).grown hg5 (by omega) (fun g hg => (World.ownsRow.lt ho4 g hg).1))⟩
      case measure => simp [intOf] <;> omega
    · obtain rfl : k = al.length := by omega
      have hbw := hid (bel_go hB.out B0.out)
      have hown : NumsOwn W.heap.size wr _ (al.map (vlAt known)) := ⟨cs, by rw [List.length_map]; exact ho, by have := hC.out; rw [List.take_length] at this; exact this.below hbw.out⟩
      obtain ⟨po, co, rfl⟩ := ownsRow_shape ho
      have HL := hid hown.in
      have HO := hid (fun k (h : (Value.slice po al.length co).ownBlock = some k) => (World.ownsRow.lt ho k h).1)
      have F0 := hid ((hB.out.block w.heap.size (by have := Z3.out; omega)).trans E0.out)
      have F1 := hid ((hB.out.block (w.heap.size + 1) (by have := Z3.out; omega)).trans E1.out)
      have F2 := hid ((hB.out.block (w.heap.size + 1 + 1) (by have := Z3.out; omega)).trans E2.out)
      have HP : Hid (Pair wr (w.heap.size + 1 + 1 + 1) 44) := hid ⟨_, _, _, _, (hB.out.block (w.heap.size + 1 + 1 + 1) (by have := Z3.out; omega)).trans E3.out⟩
      have hsz : w.heap.size + 1 + 1 + 1 < wr.heap.size := by have := Z3.out; have := hB.out.size; omega
      have hop : wr.cell? ⟨w.heap.size + 1 + 1, 0, none⟩ = some (.int .i64 10) := by have := F2.out; simp [World.cell?, this]
      generalize al.map (vlAt known) = l at *
      clear x1 hown ho hC B0 E0 E1 E2 E3 H1 K4 J4 Ha
      have Hlp2 : Hid (l.length = al.length) := Hlp
      rw [← Hlp2.out] at HL ⊢
      clear Hlp
      have hl := Hlp2.out
      have ha0 := HL.out.at 0 (by omega)
      obtain ⟨b5, o5, c5, x0, q0', d0, g0, e5, hb5, n0, k0', r0⟩ := ha0
      injection e5 with f1 _ f3
      subst f1 f3
      have m0 : wr.cell? ⟨b5, o5, none⟩ = some (.bool x0) := by simpa using n0
      have l0' : wr.cell? ⟨b5, o5 + 1, none⟩ = some (.slice q0' d0 g0) := by simpa using k0'
      have hl0 : (0 : Int) < (l.length : Int) := by omega
      have hal0 : (0 : Int) < (al.length : Int) := by omega
      have ha1 := HL.out.at 1 (by omega)
      obtain ⟨b6, o6, c6, x1, q1', d1, g1, e6, hb6, n1, k1', r1⟩ := ha1
      injection e6 with f1 _ f3
      injection f1 with f1
      injection f1 with f5 f6
      subst f5 f6 f3
      have m1 : wr.cell? ⟨b5, o5 + 2, none⟩ = some (.bool x1) := n1
      have l1' : wr.cell? ⟨b5, o5 + 2 + 1, none⟩ = some (.slice q1' d1 g1) := k1'
      have hl1 : (1 : Int) < (l.length : Int) := by omega
      have hal1 : (1 : Int) < (al.length : Int) := by omega
      have hln : 0 < l.length := by omega
      have haln : 0 < al.length := by omega
      have hv : vlAt l 0 = l[0] ∧ vlAt l 1 = l[1] := by
        refine ⟨?_, ?_⟩ <;> unfold vlAt
        · simp [show (0 : Int).toNat = 0 from rfl, List.getElem?_eq_getElem (show 0 < l.length by omega)]
        · simp [show (1 : Int).toNat = 1 from rfl, List.getElem?_eq_getElem (show 1 < l.length by omega)]
      obtain ⟨hv0, hv1⟩ := hv
      rw [hv0, hv1] at Hrr
      clear hv0 hv1
      have hge := HO.out b5 rfl
      have hpr0 := HP.out
      have hwW := Z3.out
      have m1' : wr.cell? ⟨b5, o5 + 3, none⟩ = some (.slice q1' d1 g1) := l1'
      have Hcmp := hid (fun W' (hw : Below wr.heap.size wr W') => RCmp_any _ _ l[0] l[1] W' (r0.below hw) (r1.below hw) (Hfit.out _ (List.getElem_mem (by omega))) (Hfit.out _ (List.getElem_mem (by omega))))
      rw [← ord_zero] at Hrr
      clear n0 n1 k0' k1' r0 r1 hb6 l1'
      generalize ord l[0] l[1] = od at *
      go_upto_region 23 with fail
      go_region_held3 (fun w' => w'.cell? ⟨b5, o5, none⟩ = some (.bool x0) ∧ w'.cell? ⟨b5, o5 + 1, none⟩ = some (.slice q0' d0 g0) ∧ w'.cell? ⟨b5, o5 + 2, none⟩ = some (.bool x1) ∧ w'.cell? ⟨b5, o5 + 3, none⟩ = some (.slice q1' d1 g1) ∧ Pair w' (w.heap.size + 1 + 1 + 1) 44)
        (first | (go_split_ands; (try dsimp only); (repeat' apply And.intro) <;> first | assumption | exact Pair.drew ‹_› | exact Pair.below ‹_› hb9 | exact Pair.below ‹_› hb8 | exact Pair.below ‹_› hb7 | exact Pair.below ‹_› hb6 | exact Pair.below ‹_› hb5 | exact Pair.below ‹_› hb4 | exact Pair.below ‹_› hb3 | exact Pair.below ‹_› hb2 | exact Pair.below ‹_› hb1 | exact (hb9.cell (by first | omega | (simp; omega) | (simp; done))).trans ‹_› | exact (hb8.cell (by first | omega | (simp; omega) | (simp; done))).trans ‹_› | exact (hb7.cell (by first | omega | (simp; omega) | (simp; done))).trans ‹_› | exact (hb6.cell (by first | omega | (simp; omega) | (simp; done))).trans ‹_› | exact (hb5.cell (by first | omega | (simp; omega) | (simp; done))).trans ‹_› | exact (hb4.cell (by first | omega | (simp; omega) | (simp; done))).trans ‹_› | exact (hb3.cell (by first | omega | (simp; omega) | (simp; done))).trans ‹_› | exact (hb2.cell (by first | omega | (simp; omega) | (simp; done))).trans ‹_› | exact (hb1.cell (by first | omega | (simp; omega) | (simp; done))).trans ‹_› | exact Pair.set1 (Pair.set0 ‹_› _) _ _ _ | exact (cell_stored _ (by first | (dsimp only; omega) | (simp; done) | (simp; omega)) _ _).trans ‹_› | exact Pair.drew (Pair.below ‹_› (below1 _ _)) | exact Pair.below ‹_› (below1 _ _) | exact Pair.far ‹_› (by omega) hb1 | exact Pair.new .. | exact Pair.new1 .. | exact Pair.new2 .. | (go_keep; done)) | (go_keep; done))
        (first
          | (go_at_call 38; refine (Hcmp.out _ ?_).mono ?_; (repeat (first | exact Below.refl _ _ | apply Below.drew)); rintro e w1 ⟨rfl, hb1⟩; have hz1 : wr.heap.size ≤ w1.heap.size := (by have := hb1.size; simp at this; omega))
          | (go_at_call 39; refine (rtruth_any _ _).mono ?_; rintro e w2 ⟨v2, rfl, hi2, hb2⟩; obtain ⟨p2, n2, c2, rfl, hi2⟩ := hi2.shape; have hpr := Pair.below (by go_split_ands; assumption) hb2; obtain ⟨_, _, q0, q1, q2, q3⟩ := hpr.cells))
      all_goals (
        have Hi := hid hi2
        go_wp2
        exact bodyPost_ret (v := .agg #[.bool (decide (vlTruth (od == 0) < 0)), .slice p2 n2 c2]) (by simp [results, Tryz.results53, go_sem, q0, q1]) rfl ⟨_, rfl, by rw [Hrr.out]; exact (IntAt.raw (Hi.out.stored hpr _ _ _ _) (truth_fit _)), Below.stored (bel_go hb2 (bel_go hb1 hbw.out.drew)) (by omega) _ _⟩)
end Go.Proofs.YtckkpolikdnilaaGreatDoor
/- elenchusref05.One of Op 11. -/
namespace Go.Proofs.YtckkpolikdnilaaGreatDoor
open Go.RowKit Big Go.WideMaps

set_option maxRecDepth 100000 in
set_option maxHeartbeats 12800000 in
theorem One_le (vs v0 vm vt vk : Value) (syms : List Sy) (ts : List Tb5) (t : Tm) (known : List Int) (w : World) (hs : SyIn w vs syms) (hv : ∃ p n c, v0 = .slice p n c) (hm : TabsIn w vm ts) (h0 : TmRaw w vt t) (h1 : NumsIn w vk known) (ha : ∀ a ∈ t.args, 0 ≤ a ∧ a < known.length) (hn : t.args.length ≤ 1048576)
    (hop : t.op = 11) (hl : 2 ≤ t.args.length) (hfit : ∀ z ∈ t.args.map (vlAt known), sz Big.W z.natAbs ≤ 549755813888) (rr : Int) (hrr : rr = vlTruth (decide (vlAt (t.args.map (vlAt known)) 0 ≤ vlAt (t.args.map (vlAt known)) 1))) :
    Calls Tryz.prog 53 #[.agg #[vs, v0], .agg #[vm], vt, vk] w (RRaw rr w) := by
  have Hrr := hid hrr
  clear hrr
  obtain ⟨i0, hi, hz0, hz1, hz2⟩ := info_parts infoNum
  obtain ⟨p9, n9, c9, rfl⟩ := hv
  obtain ⟨pa, ca, bb, pm, nm, cm, rfl, hA, hN⟩ := h0
  obtain ⟨pa', ca', e, j1, j2, -, j4⟩ := hA
  injection e with e1 e2 e3
  subst e1 e3
  clear e2
  have J4 := hid j4
  have H1 := hid h1
  have Ha := hid ha
  have HS := hid hs; have HM := hid hm; have HN := hid hN
  obtain ⟨pk, ck, rfl, k1, k2, -, k4⟩ := h1
  obtain ⟨ps, cps, rfl, s1, s2, -, -⟩ := hs
  obtain ⟨pq, cpq, rfl, q1, q2, -, -⟩ := hm
  have K4 := hid k4
  unfold maxLen at j2 k2 s2 q2
  obtain ⟨W, hW⟩ : ∃ W, W = ((((w.alloc (.cells #[.slice ps syms.length cps, .slice p9 n9 c9] 25)).alloc (.cells #[.slice pq ts.length cpq] 28)).alloc (.cells #[.int .i64 t.op, .slice pa t.args.length ca, .bool bb, .slice pm nm cm, .int .i64 t.sym] 71)).alloc (.cells #[.bool false, .slice none 0 0] 44)) := ⟨_, rfl⟩
  have b0 : Below w.heap.size w W := by rw [hW]; exact (((below1 w _).alloc (by simp) _).alloc (by simp; omega) _).alloc (by simp; omega) _
  have e0 : W.heap[w.heap.size]? = some (.cells #[.slice ps syms.length cps, .slice p9 n9 c9] 25 (0, 0)) := by rw [hW]; exact alloc_keep (alloc_keep (alloc_keep (alloc_at _ _ _ rfl)))
  have e1 : W.heap[w.heap.size + 1]? = some (.cells #[.slice pq ts.length cpq] 28 (0, 0)) := by rw [hW]; exact alloc_keep (alloc_keep (alloc_at _ _ _ (by rw [size_alloc])))
  have e2 : W.heap[w.heap.size + 1 + 1]? = some (.cells #[.int .i64 t.op, .slice pa t.args.length ca, .bool bb, .slice pm nm cm, .int .i64 t.sym] 71 (0, 0)) := by rw [hW]; exact alloc_keep (alloc_at _ _ _ (by rw [size_alloc, size_alloc]))
  have e3 : W.heap[w.heap.size + 1 + 1 + 1]? = some (.cells #[.bool false, .slice none 0 0] 44 (0, 0)) := by rw [hW]; exact alloc_at _ _ _ (by rw [size_alloc, size_alloc, size_alloc])
  have z3 : W.heap.size = w.heap.size + 1 + 1 + 1 + 1 := by rw [hW, size_alloc, size_alloc, size_alloc, size_alloc]
  have x1 : W.cell? ⟨w.heap.size + 1 + 1, 1, none⟩ = some (.slice pa t.args.length ca) := rec5_cell e2
  have B0 := hid b0; have E0 := hid e0; have E1 := hid e1; have E2 := hid e2; have E3 := hid e3; have Z3 := hid z3
  have Hlp : Hid ((vlParts t known).length = t.args.length) := hid (by simp [vlParts])
  unfold vlParts at *
  clear j4 k4 ha b0 e0 e1 e2 e3 z3 hN s1 s2 q1 q2
  obtain ⟨op, al, num, sym⟩ := t
  dsimp only at *
  subst hop
  have Hfit := hid hfit
  clear hfit
  go_enter Tryz.func53, Tryz.ntmps53
  go_upto_region 2 with fail
  rw [← hW]
  clear hW
  go_wp2_with fail
  have hzw : w.heap.size < W.heap.size := by have := Z3.out; omega
  go_loopw [9, 20] (fun o i wr => ∃ (k : Nat) (cs : List Value), k ≤ al.length ∧ i = .int .i64 (k : Nat) ∧ wr.ownsRow W.heap.size 44 2 o k cs ∧ Hid (VlCells w ((al.take k).map (vlAt known)) cs) ∧ Hid (Below W.heap.size W wr)) (fun _ i _ => al.length - (intOf i).toNat)
  case atStart => exact ⟨0, [], Nat.zero_le _, rfl, World.ownsRow_nil .., hid rfl, hid (Below.refl _ _)⟩
  case round =>
    obtain ⟨k, cs, hk, rfl, ho, hC, hB⟩ := hrel
    by_cases hlt : k < al.length
    · have hbw := hid (bel_go hB.out B0.out)
      obtain ⟨ba, oa, rfl, hba, hca⟩ := J4.out (by omega)
      have ka := (hbw.out.cell (p := ⟨ba, oa + k, none⟩) hba).trans (hca k hlt)
      obtain ⟨hj0, hj1⟩ := Ha.out al[k] (List.getElem_mem hlt)
      obtain ⟨j, hj⟩ : ∃ j : Nat, al[k] = (j : Nat) := ⟨al[k].toNat, by omega⟩
      have hjk : j < known.length := by omega
      have hjk' : (j : Int) < (known.length : Int) := by omega
      obtain ⟨bk, ok, rfl, hbk, hck⟩ := K4.out (by omega)
      obtain ⟨n, s, c0, c1, hr⟩ := hck j hjk
      obtain ⟨q, d, g, rfl⟩ := hr.shape
      have m0 := (hbw.out.cell (p := ⟨bk, ok + j * 2, none⟩) hbk).trans c0
      have m1 := (hbw.out.cell (p := ⟨bk, ok + j * 2 + 1, none⟩) hbk).trans c1
      rw [hj] at ka
      have Htk := hid (show (al.take (k+1)).map (vlAt known) = (al.take k).map (vlAt known) ++ [known[j]] from by rw [List.take_succ_eq_append_getElem hlt, List.map_append, List.map_singleton, hj, vlAt_nat known j hjk])
      have Hr := hid hr
      have bn := below1 wr (.cells #[.bool n, .slice q d g] 44)
      have ho4 := ownsRow_later ho bn
      have hz4 := size_alloc wr (.cells #[.bool n, .slice q d g] 44)
      have hnew := heap_alloc_new wr (.cells #[.bool n, .slice q d g] 44)
      have hnews : ∀ j u, ([.bool n, .slice q d g] : List Value)[j]? = some u → (wr.alloc (.cells #[.bool n, .slice q d g] 44)).cell? ((⟨wr.heap.size, 0, none⟩ : Addr).add j) = some u := by
        intro j u hj
        rw [Go.WideShapes.add_plain, Nat.zero_add, cell_of_row _ _ _ _ _ _ hnew]
        simpa using hj
      have hlw := hB.out.size
      have Bn := hid bn
      clear hck hca c0 c1 hr hj0 hj1 hj hba hbk bn ho hnew
      go_wp2_with (at_builtin; refine wpList_append_own _ rfl _ _ 32 rfl W.heap.size 44 i0 _ 2 32 Tryz.underlying32 hi hz0 hz1 hz2 rfl (by decide) _ k _ rfl ho4 ⟨wr.heap.size, 0, none⟩ 1 1 [.bool n, .slice q d g] rfl rfl hnews (by intro u hu; simp at hu; rcases hu with rfl | rfl <;> rfl) (by simp [maxLen]; omega) (by omega) (by omega) ?_; intro v5 w5 ho5 hg5 _)
      go_roundw
      case rel => exact ⟨k + 1, _, by omega, by go_num, ho5, hid (by rw [Htk.out]; exact hC.out.snoc Hr.out), hid ((hB.out.trans (Bn.out.mono hlw)).grown hg5 (by omega) (fun g hg => (World.ownsRow.lt ho4 g hg).1))⟩
      case measure => simp [intOf] <;> omega
    · obtain rfl : k = al.length := by omega
      have hbw := hid (bel_go hB.out B0.out)
      have hown : NumsOwn W.heap.size wr _ (al.map (vlAt known)) := ⟨cs, by rw [List.length_map]; exact ho, by have := hC.out; rw [List.take_length] at this; exact this.below hbw.out⟩
      obtain ⟨po, co, rfl⟩ := ownsRow_shape ho
      have HL := hid hown.in
      have HO := hid (fun k (h : (Value.slice po al.length co).ownBlock = some k) => (World.ownsRow.lt ho k h).1)
      have F0 := hid ((hB.out.block w.heap.size (by have := Z3.out; omega)).trans E0.out)
      have F1 := hid ((hB.out.block (w.heap.size + 1) (by have := Z3.out; omega)).trans E1.out)
      have F2 := hid ((hB.out.block (w.heap.size + 1 + 1) (by have := Z3.out; omega)).trans E2.out)
      have HP : Hid (Pair wr (w.heap.size + 1 + 1 + 1) 44) := hid ⟨_, _, _, _, (hB.out.block (w.heap.size + 1 + 1 + 1) (by have := Z3.out; omega)).trans E3.out⟩
      have hsz : w.heap.size + 1 + 1 + 1 < wr.heap.size := by have := Z3.out; have := hB.out.size; omega
      have hop : wr.cell? ⟨w.heap.size + 1 + 1, 0, none⟩ = some (.int .i64 11) := by have := F2.out; simp [World.cell?, this]
      generalize al.map (vlAt known) = l at *
      clear x1 hown ho hC B0 E0 E1 E2 E3 H1 K4 J4 Ha
      have Hlp2 : Hid (l.length = al.length) := Hlp
      rw [← Hlp2.out] at HL ⊢
      clear Hlp
      have hl := Hlp2.out
      have ha0 := HL.out.at 0 (by omega)
      obtain ⟨b5, o5, c5, x0, q0', d0, g0, e5, hb5, n0, k0', r0⟩ := ha0
      injection e5 with f1 _ f3
      subst f1 f3
      have m0 : wr.cell? ⟨b5, o5, none⟩ = some (.bool x0) := by simpa using n0
      have l0' : wr.cell? ⟨b5, o5 + 1, none⟩ = some (.slice q0' d0 g0) := by simpa using k0'
      have hl0 : (0 : Int) < (l.length : Int) := by omega
      have hal0 : (0 : Int) < (al.length : Int) := by omega
      have ha1 := HL.out.at 1 (by omega)
      obtain ⟨b6, o6, c6, x1, q1', d1, g1, e6, hb6, n1, k1', r1⟩ := ha1
      injection e6 with f1 _ f3
      injection f1 with f1
      injection f1 with f5 f6
      subst f5 f6 f3
      have m1 : wr.cell? ⟨b5, o5 + 2, none⟩ = some (.bool x1) := n1
      have l1' : wr.cell? ⟨b5, o5 + 2 + 1, none⟩ = some (.slice q1' d1 g1) := k1'
      have hl1 : (1 : Int) < (l.length : Int) := by omega
      have hal1 : (1 : Int) < (al.length : Int) := by omega
      have hln : 0 < l.length := by omega
      have haln : 0 < al.length := by omega
      have hv : vlAt l 0 = l[0] ∧ vlAt l 1 = l[1] := by
        refine ⟨?_, ?_⟩ <;> unfold vlAt
        · simp [show (0 : Int).toNat = 0 from rfl, List.getElem?_eq_getElem (show 0 < l.length by omega)]
        · simp [show (1 : Int).toNat = 1 from rfl, List.getElem?_eq_getElem (show 1 < l.length by omega)]
      obtain ⟨hv0, hv1⟩ := hv
      rw [hv0, hv1] at Hrr
      clear hv0 hv1
      have hge := HO.out b5 rfl
      have hpr0 := HP.out
      have hwW := Z3.out
      have m1' : wr.cell? ⟨b5, o5 + 3, none⟩ = some (.slice q1' d1 g1) := l1'
      have Hcmp := hid (fun W' (hw : Below wr.heap.size wr W') => RCmp_any _ _ l[0] l[1] W' (r0.below hw) (r1.below hw) (Hfit.out _ (List.getElem_mem (by omega))) (Hfit.out _ (List.getElem_mem (by omega))))
      rw [← ord_le] at Hrr
      clear n0 n1 k0' k1' r0 r1 hb6 l1'
      generalize ord l[0] l[1] = od at *
      go_upto_region 25 with fail
      go_region_held3 (fun w' => w'.cell? ⟨b5, o5, none⟩ = some (.bool x0) ∧ w'.cell? ⟨b5, o5 + 1, none⟩ = some (.slice q0' d0 g0) ∧ w'.cell? ⟨b5, o5 + 2, none⟩ = some (.bool x1) ∧ w'.cell? ⟨b5, o5 + 3, none⟩ = some (.slice q1' d1 g1) ∧ Pair w' (w.heap.size + 1 + 1 + 1) 44)
        (first | (go_split_ands; (try dsimp only); (repeat' apply And.intro) <;> first | assumption | exact Pair.drew ‹_› | exact Pair.below ‹_› hb9 | exact Pair.below ‹_› hb8 | exact Pair.below ‹_› hb7 | exact Pair.below ‹_› hb6 | exact Pair.below ‹_› hb5 | exact Pair.below ‹_› hb4 | exact Pair.below ‹_› hb3 | exact Pair.below ‹_› hb2 | exact Pair.below ‹_› hb1 | exact (hb9.cell (by first | omega | (simp; omega) | (simp; done))).trans ‹_› | exact (hb8.cell (by first | omega | (simp; omega) | (simp; done))).trans ‹_› | exact (hb7.cell (by first | omega | (simp; omega) | (simp; done))).trans ‹_› | exact (hb6.cell (by first | omega | (simp; omega) | (simp; done))).trans ‹_› | exact (hb5.cell (by first | omega | (simp; omega) | (simp; done))).trans ‹_› | exact (hb4.cell (by first | omega | (simp; omega) | (simp; done))).trans ‹_› | exact (hb3.cell (by first | omega | (simp; omega) | (simp; done))).trans ‹_› | exact (hb2.cell (by first | omega | (simp; omega) | (simp; done))).trans ‹_› | exact (hb1.cell (by first | omega | (simp; omega) | (simp; done))).trans ‹_› | exact Pair.set1 (Pair.set0 ‹_› _) _ _ _ | exact (cell_stored _ (by first | (dsimp only; omega) | (simp; done) | (simp; omega)) _ _).trans ‹_› | exact Pair.drew (Pair.below ‹_› (below1 _ _)) | exact Pair.below ‹_› (below1 _ _) | exact Pair.far ‹_› (by omega) hb1 | exact Pair.new .. | exact Pair.new1 .. | exact Pair.new2 .. | (go_keep; done)) | (go_keep; done))
        (first
          | (go_at_call 38; refine (Hcmp.out _ ?_).mono ?_; (repeat (first | exact Below.refl _ _ | apply Below.drew)); rintro e w1 ⟨rfl, hb1⟩; have hz1 : wr.heap.size ≤ w1.heap.size := (by have := hb1.size; simp at this; omega))
          | (go_at_call 39; refine (rtruth_any _ _).mono ?_; rintro e w2 ⟨v2, rfl, hi2, hb2⟩; obtain ⟨p2, n2, c2, rfl, hi2⟩ := hi2.shape; have hpr := Pair.below (by go_split_ands; assumption) hb2; obtain ⟨_, _, q0, q1, q2, q3⟩ := hpr.cells))
      all_goals (
        have Hi := hid hi2
        go_wp2
        exact bodyPost_ret (v := .agg #[.bool (decide (vlTruth (decide (od ≤ 0)) < 0)), .slice p2 n2 c2]) (by simp [results, Tryz.results53, go_sem, q0, q1]) rfl ⟨_, rfl, by rw [Hrr.out]; exact (IntAt.raw (Hi.out.stored hpr _ _ _ _) (truth_fit _)), Below.stored (bel_go hb2 (bel_go hb1 hbw.out.drew)) (by omega) _ _⟩)
end Go.Proofs.YtckkpolikdnilaaGreatDoor
/- elenchusref05.One of Op 8. -/
namespace Go.Proofs.YtckkpolikdnilaaGreatDoor
open Go.RowKit Big Go.WideMaps

set_option maxRecDepth 100000 in
set_option maxHeartbeats 12800000 in
theorem One_iff (vs v0 vm vt vk : Value) (syms : List Sy) (ts : List Tb5) (t : Tm) (known : List Int) (w : World) (hs : SyIn w vs syms) (hv : ∃ p n c, v0 = .slice p n c) (hm : TabsIn w vm ts) (h0 : TmRaw w vt t) (h1 : NumsIn w vk known) (ha : ∀ a ∈ t.args, 0 ≤ a ∧ a < known.length) (hn : t.args.length ≤ 1048576)
    (hop : t.op = 8) (hl : 2 ≤ t.args.length) (rr : Int) (hrr : rr = vlTruth ((vlAt (t.args.map (vlAt known)) 0 != 0) == (vlAt (t.args.map (vlAt known)) 1 != 0))) :
    Calls Tryz.prog 53 #[.agg #[vs, v0], .agg #[vm], vt, vk] w (RRaw rr w) := by
  have Hrr := hid hrr
  clear hrr
  obtain ⟨i0, hi, hz0, hz1, hz2⟩ := info_parts infoNum
  obtain ⟨p9, n9, c9, rfl⟩ := hv
  obtain ⟨pa, ca, bb, pm, nm, cm, rfl, hA, hN⟩ := h0
  obtain ⟨pa', ca', e, j1, j2, -, j4⟩ := hA
  injection e with e1 e2 e3
  subst e1 e3
  clear e2
  have J4 := hid j4
  have H1 := hid h1
  have Ha := hid ha
  have HS := hid hs; have HM := hid hm; have HN := hid hN
  obtain ⟨pk, ck, rfl, k1, k2, -, k4⟩ := h1
  obtain ⟨ps, cps, rfl, s1, s2, -, -⟩ := hs
  obtain ⟨pq, cpq, rfl, q1, q2, -, -⟩ := hm
  have K4 := hid k4
  unfold maxLen at j2 k2 s2 q2
  obtain ⟨W, hW⟩ : ∃ W, W = ((((w.alloc (.cells #[.slice ps syms.length cps, .slice p9 n9 c9] 25)).alloc (.cells #[.slice pq ts.length cpq] 28)).alloc (.cells #[.int .i64 t.op, .slice pa t.args.length ca, .bool bb, .slice pm nm cm, .int .i64 t.sym] 71)).alloc (.cells #[.bool false, .slice none 0 0] 44)) := ⟨_, rfl⟩
  have b0 : Below w.heap.size w W := by rw [hW]; exact (((below1 w _).alloc (by simp) _).alloc (by simp; omega) _).alloc (by simp; omega) _
  have e0 : W.heap[w.heap.size]? = some (.cells #[.slice ps syms.length cps, .slice p9 n9 c9] 25 (0, 0)) := by rw [hW]; exact alloc_keep (alloc_keep (alloc_keep (alloc_at _ _ _ rfl)))
  have e1 : W.heap[w.heap.size + 1]? = some (.cells #[.slice pq ts.length cpq] 28 (0, 0)) := by rw [hW]; exact alloc_keep (alloc_keep (alloc_at _ _ _ (by rw [size_alloc])))
  have e2 : W.heap[w.heap.size + 1 + 1]? = some (.cells #[.int .i64 t.op, .slice pa t.args.length ca, .bool bb, .slice pm nm cm, .int .i64 t.sym] 71 (0, 0)) := by rw [hW]; exact alloc_keep (alloc_at _ _ _ (by rw [size_alloc, size_alloc]))
  have e3 : W.heap[w.heap.size + 1 + 1 + 1]? = some (.cells #[.bool false, .slice none 0 0] 44 (0, 0)) := by rw [hW]; exact alloc_at _ _ _ (by rw [size_alloc, size_alloc, size_alloc])
  have z3 : W.heap.size = w.heap.size + 1 + 1 + 1 + 1 := by rw [hW, size_alloc, size_alloc, size_alloc, size_alloc]
  have x1 : W.cell? ⟨w.heap.size + 1 + 1, 1, none⟩ = some (.slice pa t.args.length ca) := rec5_cell e2
  have B0 := hid b0; have E0 := hid e0; have E1 := hid e1; have E2 := hid e2; have E3 := hid e3; have Z3 := hid z3
  have Hlp : Hid ((vlParts t known).length = t.args.length) := hid (by simp [vlParts])
  unfold vlParts at *
  clear j4 k4 ha b0 e0 e1 e2 e3 z3 hN s1 s2 q1 q2
  obtain ⟨op, al, num, sym⟩ := t
  dsimp only at *
  subst hop
  go_enter Tryz.func53, Tryz.ntmps53
  go_upto_region 2 with fail
  rw [← hW]
  clear hW
  go_wp2_with fail
  have hzw : w.heap.size < W.heap.size := by have := Z3.out; omega
  go_loopw [9, 20] (fun o i wr => ∃ (k : Nat) (cs : List Value), k ≤ al.length ∧ i = .int .i64 (k : Nat) ∧ wr.ownsRow W.heap.size 44 2 o k cs ∧ Hid (VlCells w ((al.take k).map (vlAt known)) cs) ∧ Hid (Below W.heap.size W wr)) (fun _ i _ => al.length - (intOf i).toNat)
  case atStart => exact ⟨0, [], Nat.zero_le _, rfl, World.ownsRow_nil .., hid rfl, hid (Below.refl _ _)⟩
  case round =>
    obtain ⟨k, cs, hk, rfl, ho, hC, hB⟩ := hrel
    by_cases hlt : k < al.length
    · have hbw := hid (bel_go hB.out B0.out)
      obtain ⟨ba, oa, rfl, hba, hca⟩ := J4.out (by omega)
      have ka := (hbw.out.cell (p := ⟨ba, oa + k, none⟩) hba).trans (hca k hlt)
      obtain ⟨hj0, hj1⟩ := Ha.out al[k] (List.getElem_mem hlt)
      obtain ⟨j, hj⟩ : ∃ j : Nat, al[k] = (j : Nat) := ⟨al[k].toNat, by omega⟩
      have hjk : j < known.length := by omega
      have hjk' : (j : Int) < (known.length : Int) := by omega
      obtain ⟨bk, ok, rfl, hbk, hck⟩ := K4.out (by omega)
      obtain ⟨n, s, c0, c1, hr⟩ := hck j hjk
      obtain ⟨q, d, g, rfl⟩ := hr.shape
      have m0 := (hbw.out.cell (p := ⟨bk, ok + j * 2, none⟩) hbk).trans c0
      have m1 := (hbw.out.cell (p := ⟨bk, ok + j * 2 + 1, none⟩) hbk).trans c1
      rw [hj] at ka
      have Htk := hid (show (al.take (k+1)).map (vlAt known) = (al.take k).map (vlAt known) ++ [known[j]] from by rw [List.take_succ_eq_append_getElem hlt, List.map_append, List.map_singleton, hj, vlAt_nat known j hjk])
      have Hr := hid hr
      have bn := below1 wr (.cells #[.bool n, .slice q d g] 44)
      have ho4 := ownsRow_later ho bn
      have hz4 := size_alloc wr (.cells #[.bool n, .slice q d g] 44)
      have hnew := heap_alloc_new wr (.cells #[.bool n, .slice q d g] 44)
      have hnews : ∀ j u, ([.bool n, .slice q d g] : List Value)[j]? = some u → (wr.alloc (.cells #[.bool n, .slice q d g] 44)).cell? ((⟨wr.heap.size, 0, none⟩ : Addr).add j) = some u := by
        intro j u hj
        rw [Go.WideShapes.add_plain, Nat.zero_add, cell_of_row _ _ _ _ _ _ hnew]
        simpa using hj
      have hlw := hB.out.size
      have Bn := hid bn
      clear hck hca c0 c1 hr hj0 hj1 hj hba hbk bn ho hnew
      go_wp2_with (at_builtin; refine wpList_append_own _ rfl _ _ 32 rfl W.heap.size 44 i0 _ 2 32 Tryz.underlying32 hi hz0 hz1 hz2 rfl (by decide) _ k _ rfl ho4 ⟨wr.heap.size, 0, none⟩ 1 1 [.bool n, .slice q d g] rfl rfl hnews (by intro u hu; simp at hu; rcases hu with rfl | rfl <;> rfl) (by simp [maxLen]; omega) (by omega) (by omega) ?_; intro v5 w5 ho5 hg5 _)
      go_roundw
      case rel => exact ⟨k + 1, _, by omega, by go_num, ho5, hid (by rw [Htk.out]; exact hC.out.snoc Hr.out), hid ((hB.out.trans (Bn.out.mono hlw)).grown hg5 (by omega) (fun g hg => (World.ownsRow.lt ho4 g hg).1))⟩
      case measure => simp [intOf] <;> omega
    · obtain rfl : k = al.length := by omega
      have hbw := hid (bel_go hB.out B0.out)
      have hown : NumsOwn W.heap.size wr _ (al.map (vlAt known)) := ⟨cs, by rw [List.length_map]; exact ho, by have := hC.out; rw [List.take_length] at this; exact this.below hbw.out⟩
      obtain ⟨po, co, rfl⟩ := ownsRow_shape ho
      have HL := hid hown.in
      have HO := hid (fun k (h : (Value.slice po al.length co).ownBlock = some k) => (World.ownsRow.lt ho k h).1)
      have F0 := hid ((hB.out.block w.heap.size (by have := Z3.out; omega)).trans E0.out)
      have F1 := hid ((hB.out.block (w.heap.size + 1) (by have := Z3.out; omega)).trans E1.out)
      have F2 := hid ((hB.out.block (w.heap.size + 1 + 1) (by have := Z3.out; omega)).trans E2.out)
      have HP : Hid (Pair wr (w.heap.size + 1 + 1 + 1) 44) := hid ⟨_, _, _, _, (hB.out.block (w.heap.size + 1 + 1 + 1) (by have := Z3.out; omega)).trans E3.out⟩
      have hsz : w.heap.size + 1 + 1 + 1 < wr.heap.size := by have := Z3.out; have := hB.out.size; omega
      have hop : wr.cell? ⟨w.heap.size + 1 + 1, 0, none⟩ = some (.int .i64 8) := by have := F2.out; simp [World.cell?, this]
      generalize al.map (vlAt known) = l at *
      clear x1 hown ho hC B0 E0 E1 E2 E3 H1 K4 J4 Ha
      have Hlp2 : Hid (l.length = al.length) := Hlp
      rw [← Hlp2.out] at HL ⊢
      clear Hlp
      have hl := Hlp2.out
      have ha0 := HL.out.at 0 (by omega)
      obtain ⟨b5, o5, c5, x0, q0', d0, g0, e5, hb5, n0, k0', r0⟩ := ha0
      injection e5 with f1 _ f3
      subst f1 f3
      have m0 : wr.cell? ⟨b5, o5, none⟩ = some (.bool x0) := by simpa using n0
      have l0' : wr.cell? ⟨b5, o5 + 1, none⟩ = some (.slice q0' d0 g0) := by simpa using k0'
      have hl0 : (0 : Int) < (l.length : Int) := by omega
      have hal0 : (0 : Int) < (al.length : Int) := by omega
      have ha1 := HL.out.at 1 (by omega)
      obtain ⟨b6, o6, c6, x1, q1', d1, g1, e6, hb6, n1, k1', r1⟩ := ha1
      injection e6 with f1 _ f3
      injection f1 with f1
      injection f1 with f5 f6
      subst f5 f6 f3
      have m1 : wr.cell? ⟨b5, o5 + 2, none⟩ = some (.bool x1) := n1
      have l1' : wr.cell? ⟨b5, o5 + 2 + 1, none⟩ = some (.slice q1' d1 g1) := k1'
      have hl1 : (1 : Int) < (l.length : Int) := by omega
      have hal1 : (1 : Int) < (al.length : Int) := by omega
      have hln : 0 < l.length := by omega
      have haln : 0 < al.length := by omega
      have hv : vlAt l 0 = l[0] ∧ vlAt l 1 = l[1] := by
        refine ⟨?_, ?_⟩ <;> unfold vlAt
        · simp [show (0 : Int).toNat = 0 from rfl, List.getElem?_eq_getElem (show 0 < l.length by omega)]
        · simp [show (1 : Int).toNat = 1 from rfl, List.getElem?_eq_getElem (show 1 < l.length by omega)]
      obtain ⟨hv0, hv1⟩ := hv
      rw [hv0, hv1] at Hrr
      clear hv0 hv1
      have hge := HO.out b5 rfl
      have hpr0 := HP.out
      have hwW := Z3.out
      have m1' : wr.cell? ⟨b5, o5 + 3, none⟩ = some (.slice q1' d1 g1) := l1'
      have Hs0 := hid (fun W' (hw : Below wr.heap.size wr W') => sure_any _ _ W' (r0.below hw))
      have Hs1 := hid (fun W' (hw : Below wr.heap.size wr W') => sure_any _ _ W' (r1.below hw))
      clear n0 n1 k0' k1' r0 r1 hb6 l1'
      generalize (l[0] != 0) = u0 at *
      generalize (l[1] != 0) = u1 at *
      go_upto_region 17 with fail
      go_region_held3 (fun w' => w'.cell? ⟨b5, o5, none⟩ = some (.bool x0) ∧ w'.cell? ⟨b5, o5 + 1, none⟩ = some (.slice q0' d0 g0) ∧ w'.cell? ⟨b5, o5 + 2, none⟩ = some (.bool x1) ∧ w'.cell? ⟨b5, o5 + 3, none⟩ = some (.slice q1' d1 g1) ∧ Pair w' (w.heap.size + 1 + 1 + 1) 44)
        (first | (go_split_ands; (try dsimp only); (repeat' apply And.intro) <;> first | assumption | exact Pair.drew ‹_› | exact Pair.below ‹_› hb9 | exact Pair.below ‹_› hb8 | exact Pair.below ‹_› hb7 | exact Pair.below ‹_› hb6 | exact Pair.below ‹_› hb5 | exact Pair.below ‹_› hb4 | exact Pair.below ‹_› hb3 | exact Pair.below ‹_› hb2 | exact Pair.below ‹_› hb1 | exact (hb9.cell (by first | omega | (simp; omega) | (simp; done))).trans ‹_› | exact (hb8.cell (by first | omega | (simp; omega) | (simp; done))).trans ‹_› | exact (hb7.cell (by first | omega | (simp; omega) | (simp; done))).trans ‹_› | exact (hb6.cell (by first | omega | (simp; omega) | (simp; done))).trans ‹_› | exact (hb5.cell (by first | omega | (simp; omega) | (simp; done))).trans ‹_› | exact (hb4.cell (by first | omega | (simp; omega) | (simp; done))).trans ‹_› | exact (hb3.cell (by first | omega | (simp; omega) | (simp; done))).trans ‹_› | exact (hb2.cell (by first | omega | (simp; omega) | (simp; done))).trans ‹_› | exact (hb1.cell (by first | omega | (simp; omega) | (simp; done))).trans ‹_› | exact Pair.set1 (Pair.set0 ‹_› _) _ _ _ | exact (cell_stored _ (by first | (dsimp only; omega) | (simp; done) | (simp; omega)) _ _).trans ‹_› | exact Pair.drew (Pair.below ‹_› (below1 _ _)) | exact Pair.below ‹_› (below1 _ _) | exact Pair.far ‹_› (by omega) hb1 | exact Pair.new .. | exact Pair.new1 .. | exact Pair.new2 .. | (go_keep; done)) | (go_keep; done))
        (first
          | (go_at_call_of 84 (q0'); refine (Hs0.out _ ?_).mono ?_; (repeat (first | exact Below.refl _ _ | apply Below.drew)); rintro e w1 ⟨rfl, hb1⟩; have hz1 : wr.heap.size ≤ w1.heap.size := (by have := hb1.size; simp at this; omega))
          | (go_at_call_of 84 (q1'); refine (Hs1.out _ (bel_go hb1 ?_)).mono ?_; (repeat (first | exact Below.refl _ _ | apply Below.drew)); rintro e w3 ⟨rfl, hb3⟩; have hz3 : wr.heap.size ≤ w3.heap.size := (by have := hb3.size; omega))
          | (go_at_call 39; refine (rtruth_any _ _).mono ?_; rintro e w2 ⟨v2, rfl, hi2, hb2⟩; obtain ⟨p2, n2, c2, rfl, hi2⟩ := hi2.shape; have hpr := Pair.below (by go_split_ands; assumption) hb2; obtain ⟨_, _, q0, q1, q2, q3⟩ := hpr.cells))
      all_goals (
        have Hi := hid hi2
        go_wp2
        exact bodyPost_ret (v := .agg #[.bool (decide (vlTruth (u0 == u1) < 0)), .slice p2 n2 c2]) (by simp [results, Tryz.results53, go_sem, q0, q1]) rfl ⟨_, rfl, by rw [Hrr.out]; exact (IntAt.raw (Hi.out.stored hpr _ _ _ _) (truth_fit _)), Below.stored (bel_go hb2 (bel_go hb3 (bel_go hb1 hbw.out.drew))) (by omega) _ _⟩)
end Go.Proofs.YtckkpolikdnilaaGreatDoor
/- elenchusref05.One of Op 13. -/
namespace Go.Proofs.YtckkpolikdnilaaGreatDoor
open Go.RowKit Big Go.WideMaps

set_option maxRecDepth 100000 in
set_option maxHeartbeats 12800000 in
theorem One_mul (vs v0 vm vt vk : Value) (syms : List Sy) (ts : List Tb5) (t : Tm) (known : List Int) (w : World) (hs : SyIn w vs syms) (hv : ∃ p n c, v0 = .slice p n c) (hm : TabsIn w vm ts) (h0 : TmRaw w vt t) (h1 : NumsIn w vk known) (ha : ∀ a ∈ t.args, 0 ≤ a ∧ a < known.length) (hn : t.args.length ≤ 1048576)
    (hop : t.op = 13) (hl : 1 ≤ t.args.length) (hfit : ∀ z ∈ t.args.map (vlAt known), sz Big.W z.natAbs ≤ 549755813888) (hnum : sz Big.W t.num.natAbs ≤ 549755813888) (rr : Int) (hrr : rr = t.num * vlAt (t.args.map (vlAt known)) 0) :
    Calls Tryz.prog 53 #[.agg #[vs, v0], .agg #[vm], vt, vk] w (RRaw rr w) := by
  have Hrr := hid hrr
  clear hrr
  obtain ⟨i0, hi, hz0, hz1, hz2⟩ := info_parts infoNum
  obtain ⟨p9, n9, c9, rfl⟩ := hv
  obtain ⟨pa, ca, bb, pm, nm, cm, rfl, hA, hN⟩ := h0
  obtain ⟨pa', ca', e, j1, j2, -, j4⟩ := hA
  injection e with e1 e2 e3
  subst e1 e3
  clear e2
  have J4 := hid j4
  have H1 := hid h1
  have Ha := hid ha
  have HS := hid hs; have HM := hid hm; have HN := hid hN
  obtain ⟨pk, ck, rfl, k1, k2, -, k4⟩ := h1
  obtain ⟨ps, cps, rfl, s1, s2, -, -⟩ := hs
  obtain ⟨pq, cpq, rfl, q1, q2, -, -⟩ := hm
  have K4 := hid k4
  unfold maxLen at j2 k2 s2 q2
  obtain ⟨W, hW⟩ : ∃ W, W = ((((w.alloc (.cells #[.slice ps syms.length cps, .slice p9 n9 c9] 25)).alloc (.cells #[.slice pq ts.length cpq] 28)).alloc (.cells #[.int .i64 t.op, .slice pa t.args.length ca, .bool bb, .slice pm nm cm, .int .i64 t.sym] 71)).alloc (.cells #[.bool false, .slice none 0 0] 44)) := ⟨_, rfl⟩
  have b0 : Below w.heap.size w W := by rw [hW]; exact (((below1 w _).alloc (by simp) _).alloc (by simp; omega) _).alloc (by simp; omega) _
  have e0 : W.heap[w.heap.size]? = some (.cells #[.slice ps syms.length cps, .slice p9 n9 c9] 25 (0, 0)) := by rw [hW]; exact alloc_keep (alloc_keep (alloc_keep (alloc_at _ _ _ rfl)))
  have e1 : W.heap[w.heap.size + 1]? = some (.cells #[.slice pq ts.length cpq] 28 (0, 0)) := by rw [hW]; exact alloc_keep (alloc_keep (alloc_at _ _ _ (by rw [size_alloc])))
  have e2 : W.heap[w.heap.size + 1 + 1]? = some (.cells #[.int .i64 t.op, .slice pa t.args.length ca, .bool bb, .slice pm nm cm, .int .i64 t.sym] 71 (0, 0)) := by rw [hW]; exact alloc_keep (alloc_at _ _ _ (by rw [size_alloc, size_alloc]))
  have e3 : W.heap[w.heap.size + 1 + 1 + 1]? = some (.cells #[.bool false, .slice none 0 0] 44 (0, 0)) := by rw [hW]; exact alloc_at _ _ _ (by rw [size_alloc, size_alloc, size_alloc])
  have z3 : W.heap.size = w.heap.size + 1 + 1 + 1 + 1 := by rw [hW, size_alloc, size_alloc, size_alloc, size_alloc]
  have x1 : W.cell? ⟨w.heap.size + 1 + 1, 1, none⟩ = some (.slice pa t.args.length ca) := rec5_cell e2
  have B0 := hid b0; have E0 := hid e0; have E1 := hid e1; have E2 := hid e2; have E3 := hid e3; have Z3 := hid z3
  have Hlp : Hid ((vlParts t known).length = t.args.length) := hid (by simp [vlParts])
  unfold vlParts at *
  clear j4 k4 ha b0 e0 e1 e2 e3 z3 hN s1 s2 q1 q2
  obtain ⟨op, al, num, sym⟩ := t
  dsimp only at *
  subst hop
  have Hfit := hid hfit
  clear hfit
  have Hnum := hid hnum
  clear hnum
  go_enter Tryz.func53, Tryz.ntmps53
  go_upto_region 2 with fail
  rw [← hW]
  clear hW
  go_wp2_with fail
  have hzw : w.heap.size < W.heap.size := by have := Z3.out; omega
  go_loopw [9, 20] (fun o i wr => ∃ (k : Nat) (cs : List Value), k ≤ al.length ∧ i = .int .i64 (k : Nat) ∧ wr.ownsRow W.heap.size 44 2 o k cs ∧ Hid (VlCells w ((al.take k).map (vlAt known)) cs) ∧ Hid (Below W.heap.size W wr)) (fun _ i _ => al.length - (intOf i).toNat)
  case atStart => exact ⟨0, [], Nat.zero_le _, rfl, World.ownsRow_nil .., hid rfl, hid (Below.refl _ _)⟩
  case round =>
    obtain ⟨k, cs, hk, rfl, ho, hC, hB⟩ := hrel
    by_cases hlt : k < al.length
    · have hbw := hid (bel_go hB.out B0.out)
      obtain ⟨ba, oa, rfl, hba, hca⟩ := J4.out (by omega)
      have ka := (hbw.out.cell (p := ⟨ba, oa + k, none⟩) hba).trans (hca k hlt)
      obtain ⟨hj0, hj1⟩ := Ha.out al[k] (List.getElem_mem hlt)
      obtain ⟨j, hj⟩ : ∃ j : Nat, al[k] = (j : Nat) := ⟨al[k].toNat, by omega⟩
      have hjk : j < known.length := by omega
      have hjk' : (j : Int) < (known.length : Int) := by omega
      obtain ⟨bk, ok, rfl, hbk, hck⟩ := K4.out (by omega)
      obtain ⟨n, s, c0, c1, hr⟩ := hck j hjk
      obtain ⟨q, d, g, rfl⟩ := hr.shape
      have m0 := (hbw.out.cell (p := ⟨bk, ok + j * 2, none⟩) hbk).trans c0
      have m1 := (hbw.out.cell (p := ⟨bk, ok + j * 2 + 1, none⟩) hbk).trans c1
      rw [hj] at ka
      have Htk := hid (show (al.take (k+1)).map (vlAt known) = (al.take k).map (vlAt known) ++ [known[j]] from by rw [List.take_succ_eq_append_getElem hlt, List.map_append, List.map_singleton, hj, vlAt_nat known j hjk])
      have Hr := hid hr
      have bn := below1 wr (.cells #[.bool n, .slice q d g] 44)
      have ho4 := ownsRow_later ho bn
      have hz4 := size_alloc wr (.cells #[.bool n, .slice q d g] 44)
      have hnew := heap_alloc_new wr (.cells #[.bool n, .slice q d g] 44)
      have hnews : ∀ j u, ([.bool n, .slice q d g] : List Value)[j]? = some u → (wr.alloc (.cells #[.bool n, .slice q d g] 44)).cell? ((⟨wr.heap.size, 0, none⟩ : Addr).add j) = some u := by
        intro j u hj
        rw [Go.WideShapes.add_plain, Nat.zero_add, cell_of_row _ _ _ _ _ _ hnew]
        simpa using hj
      have hlw := hB.out.size
      have Bn := hid bn
      clear hck hca c0 c1 hr hj0 hj1 hj hba hbk bn ho hnew
      go_wp2_with (at_builtin; refine wpList_append_own _ rfl _ _ 32 rfl W.heap.size 44 i0 _ 2 32 Tryz.underlying32 hi hz0 hz1 hz2 rfl (by decide) _ k _ rfl ho4 ⟨wr.heap.size, 0, none⟩ 1 1 [.bool n, .slice q d g] rfl rfl hnews (by intro u hu; simp at hu; rcases hu with rfl | rfl <;> rfl) (by simp [maxLen]; omega) (by omega) (by omega) ?_; intro v5 w5 ho5 hg5 _)
      go_roundw
      case rel => exact ⟨k + 1, _, by omega, by go_num, ho5, hid (by rw [Htk.out]; exact hC.out.snoc Hr.out), hid ((hB.out.trans (Bn.out.mono hlw)).grown hg5 (by omega) (fun g hg => (World.ownsRow.lt ho4 g hg).1))⟩
      case measure => simp [intOf] <;> omega
    · obtain rfl : k = al.length := by omega
      have hbw := hid (bel_go hB.out B0.out)
      have hown : NumsOwn W.heap.size wr _ (al.map (vlAt known)) := ⟨cs, by rw [List.length_map]; exact ho, by have := hC.out; rw [List.take_length] at this; exact this.below hbw.out⟩
      obtain ⟨po, co, rfl⟩ := ownsRow_shape ho
      have HL := hid hown.in
      have HO := hid (fun k (h : (Value.slice po al.length co).ownBlock = some k) => (World.ownsRow.lt ho k h).1)
      have F0 := hid ((hB.out.block w.heap.size (by have := Z3.out; omega)).trans E0.out)
      have F1 := hid ((hB.out.block (w.heap.size + 1) (by have := Z3.out; omega)).trans E1.out)
      have F2 := hid ((hB.out.block (w.heap.size + 1 + 1) (by have := Z3.out; omega)).trans E2.out)
      have HP : Hid (Pair wr (w.heap.size + 1 + 1 + 1) 44) := hid ⟨_, _, _, _, (hB.out.block (w.heap.size + 1 + 1 + 1) (by have := Z3.out; omega)).trans E3.out⟩
      have hsz : w.heap.size + 1 + 1 + 1 < wr.heap.size := by have := Z3.out; have := hB.out.size; omega
      have hop : wr.cell? ⟨w.heap.size + 1 + 1, 0, none⟩ = some (.int .i64 13) := by have := F2.out; simp [World.cell?, this]
      generalize al.map (vlAt known) = l at *
      clear x1 hown ho hC B0 E0 E1 E2 E3 H1 K4 J4 Ha
      have Hlp2 : Hid (l.length = al.length) := Hlp
      rw [← Hlp2.out] at HL ⊢
      clear Hlp
      have hl := Hlp2.out
      have ha0 := HL.out.at 0 (by omega)
      obtain ⟨b5, o5, c5, x0, q0', d0, g0, e5, hb5, n0, k0', r0⟩ := ha0
      injection e5 with f1 _ f3
      subst f1 f3
      have m0 : wr.cell? ⟨b5, o5, none⟩ = some (.bool x0) := by simpa using n0
      have l0' : wr.cell? ⟨b5, o5 + 1, none⟩ = some (.slice q0' d0 g0) := by simpa using k0'
      have hl0 : (0 : Int) < (l.length : Int) := by omega
      have hal0 : (0 : Int) < (al.length : Int) := by omega
      have hln : 0 < l.length := by omega
      have haln : 0 < al.length := by omega
      have hv : vlAt l 0 = l[0] := by unfold vlAt; simp [show (0 : Int).toNat = 0 from rfl, List.getElem?_eq_getElem (show 0 < l.length by omega)]
      rw [hv] at Hrr
      clear hv
      have Hm := hid (fun W' (hw : Below wr.heap.size wr W') => RMul_any _ _ _ _ W' ((HN.out.below hbw.out).below hw) (r0.below hw) Hnum.out (Hfit.out _ (List.getElem_mem (by omega))))
      have Hres : Hid (sz Big.W (num * l[0]).natAbs ≤ 1099511627776) := hid (by
        have h1 := Hnum.out
        have h2 := Hfit.out l[0] (List.getElem_mem (by omega))
        rw [Int.natAbs_mul]
        have h3 := sz_mul W2 num.natAbs l[0].natAbs
        omega)
      have u2 : wr.cell? ⟨w.heap.size + 1 + 1, 2, none⟩ = some (.bool bb) := by have := F2.out; simp [World.cell?, this]
      have u3 : wr.cell? ⟨w.heap.size + 1 + 1, 3, none⟩ = some (.slice pm nm cm) := by have := F2.out; simp [World.cell?, this]
      have hge := HO.out b5 rfl
      have hpr0 := HP.out
      have hwW := Z3.out
      clear n0 k0' r0
      generalize num * l[0] = zz at *
      go_upto_region 27 with fail
      go_region_held3 (fun w' => w'.cell? ⟨b5, o5, none⟩ = some (.bool x0) ∧ w'.cell? ⟨b5, o5 + 1, none⟩ = some (.slice q0' d0 g0) ∧ w'.cell? ⟨w.heap.size + 1 + 1, 2, none⟩ = some (.bool bb) ∧ w'.cell? ⟨w.heap.size + 1 + 1, 3, none⟩ = some (.slice pm nm cm) ∧ Pair w' (w.heap.size + 1 + 1 + 1) 44)
        (first | (go_split_ands; (try dsimp only); (repeat' apply And.intro) <;> first | assumption | exact Pair.drew ‹_› | exact Pair.below ‹_› hb9 | exact Pair.below ‹_› hb8 | exact Pair.below ‹_› hb7 | exact Pair.below ‹_› hb6 | exact Pair.below ‹_› hb5 | exact Pair.below ‹_› hb4 | exact Pair.below ‹_› hb3 | exact Pair.below ‹_› hb2 | exact Pair.below ‹_› hb1 | exact (hb9.cell (by first | omega | (simp; omega) | (simp; done))).trans ‹_› | exact (hb8.cell (by first | omega | (simp; omega) | (simp; done))).trans ‹_› | exact (hb7.cell (by first | omega | (simp; omega) | (simp; done))).trans ‹_› | exact (hb6.cell (by first | omega | (simp; omega) | (simp; done))).trans ‹_› | exact (hb5.cell (by first | omega | (simp; omega) | (simp; done))).trans ‹_› | exact (hb4.cell (by first | omega | (simp; omega) | (simp; done))).trans ‹_› | exact (hb3.cell (by first | omega | (simp; omega) | (simp; done))).trans ‹_› | exact (hb2.cell (by first | omega | (simp; omega) | (simp; done))).trans ‹_› | exact (hb1.cell (by first | omega | (simp; omega) | (simp; done))).trans ‹_› | exact Pair.set1 (Pair.set0 ‹_› _) _ _ _ | exact (cell_stored _ (by first | (dsimp only; omega) | (simp; done) | (simp; omega)) _ _).trans ‹_› | exact Pair.drew (Pair.below ‹_› (below1 _ _)) | exact Pair.below ‹_› (below1 _ _) | exact Pair.far ‹_› (by omega) hb1 | exact Pair.new .. | exact Pair.new1 .. | exact Pair.new2 .. | (go_keep; done)) | (go_keep; done))
        (first
          | (go_at_call 85; refine (Hm.out _ ?_).mono ?_; (repeat (first | exact Below.refl _ _ | apply Below.drew)); rintro e w2 ⟨v2, rfl, hi2, hb2⟩; have hz1 : wr.heap.size ≤ w2.heap.size := (by have := hb2.size; simp at this; omega); obtain ⟨p2, n2, c2, rfl, hi2⟩ := hi2.shape; have hpr := Pair.below (by go_split_ands; assumption) hb2; obtain ⟨_, _, q0, q1, q2, q3⟩ := hpr.cells))
      have Hi := hid hi2
      go_wp2
      exact bodyPost_ret (v := .agg #[.bool (decide (zz < 0)), .slice p2 n2 c2]) (by simp [results, Tryz.results53, go_sem, q0, q1]) rfl ⟨_, rfl, by rw [Hrr.out]; exact (IntAt.raw (Hi.out.stored hpr _ _ _ _) Hres.out), Below.stored (bel_go hb2 hbw.out.drew) (by omega) _ _⟩
end Go.Proofs.YtckkpolikdnilaaGreatDoor
