/- Texts put together: TimesHalves, TimesWalk, RefTimes, From, SmallFns, Plus, Minus, Compare, WholeFns, RefWhole, RefLess, RefCompare, RefNum, WholeAdd, WholeCmp. -/
import Derived.Test.YtippcalhcnjghaaDoorPrintsCardM1
import Derived.Shelf.Spec.BitsCarry
import Derived.Deep.QuietTactic
import Derived.BigQuiet
import Derived.WalkSmall
import Derived.Deep.RegionHeld3
/- whole.timesHalves: products of halves of words. -/
namespace Go.Proofs.YtippcalhcnjghaaDoor
open Go.RowKit Big

theorem val_set (B : Nat) : ∀ (l : List Nat) (k x : Nat) (h : k < l.length), val B (l.set k x) + B ^ k * l[k] = val B l + B ^ k * x
  | [], k, x, h => absurd h (by simp)
  | y :: l, 0, x, _ => by simp [val]; omega
  | y :: l, k + 1, x, h => by
    have ih := val_set B l k x (by simpa using h)
    simp only [List.set_cons_succ, val, List.getElem_cons_succ, Nat.pow_succ]
    have : B * (val B (l.set k x) + B ^ k * l[k]'(by simpa using h)) = B * (val B l + B ^ k * x) := by rw [ih]
    grind
theorem small_set {B : Nat} {l : List Nat} (h : Small B l) (k : Nat) {x : Nat} (hx : x < B) : Small B (l.set k x) := by
  intro y hy
  rcases List.mem_or_eq_of_mem_set hy with h1 | h1
  · exact h y h1
  · rw [h1]; exact hx
/-- one step of a row: the product's digit, what lies there, and the carry -/
theorem times_step {O : List Nat} {k x y c P Va Vb HI HJ : Nat} (hk : k < O.length) (hP : P = x * y + O[k] + c) (hHk : H ^ k = HI * HJ)
    (hv : val H O + c * H ^ k = Va + HI * (x * Vb)) : val H (O.set k (P % 4294967296)) + P / 4294967296 * H ^ (k + 1) = Va + HI * (x * (Vb + HJ * y)) := by
  have h1 := val_set H O k (P % 4294967296) hk
  have e2 : P % 4294967296 + H * (P / 4294967296) = x * y + O[k] + c := by rw [← hP]; unfold H; omega
  rw [Nat.pow_succ]
  generalize val H (O.set k (P % 4294967296)) = V' at *
  generalize O[k] = o at *
  generalize P % 4294967296 = r at *
  generalize P / 4294967296 = q at *
  have e3 : H ^ k * (r + H * q) = H ^ k * (x * y + o + c) := by rw [e2]
  have e4 : V' + H ^ k * o + q * (H ^ k * H) = Va + HI * (x * Vb) + H ^ k * (x * y) + H ^ k * o := by grind
  rw [hHk] at e4 ⊢
  grind
theorem mulsum_lt {x y o c : Nat} (hx : x < 4294967296) (hy : y < 4294967296) (ho : o < 4294967296) (hc : c < 4294967296) :
    x * y ≤ 18446744065119617025 ∧ x * y + o + c < 18446744073709551616 ∧ (x * y + o + c) / 4294967296 < 4294967296 := by
  have h : x * y ≤ 4294967295 * 4294967295 := Nat.mul_le_mul (by omega) (by omega)
  omega
end Go.Proofs.YtippcalhcnjghaaDoor
/- whole.timesHalves: the walk. -/
namespace Go.Proofs.YtippcalhcnjghaaDoor
open Go.RowKit Big

theorem val_zeros (B n : Nat) : val B (List.replicate n 0) = 0 := by
  induction n with
  | zero => rfl
  | succ n ih => rw [List.replicate_succ, val_cons, ih]; simp
theorem small_zeros {B : Nat} (hB : 0 < B) (n : Nat) : Small B (List.replicate n 0) := fun x hx => by rw [List.eq_of_mem_replicate hx]; exact hB

set_option maxRecDepth 100000 in
set_option maxHeartbeats 3200000 in
theorem timesHalves_any (v0 v1 : Value) (l0 l1 : List Nat) (w : World) (h0 : At w .u32 v0 l0) (h1 : At w .u32 v1 l1) (s0 : Small H l0) (s1 : Small H l1)
    (hl0 : l0.length ≤ 4398046511104) (hl1 : l1.length ≤ 4398046511104) : Calls Tryd.prog 77 #[v0, v1] w (ROwn 67 .u32 (dig H (val H l0 * val H l1)) w) := by
  obtain ⟨p0, c0, rfl, a1, a2, a3, a4⟩ := h0
  obtain ⟨p1, c1, rfl, b1, b2, b3, b4⟩ := h1
  unfold maxLen at a2 b2
  go_enter Tryd.func77, Tryd.ntmps77
  go_wp2_with (first
    | (at_make; refine wpList_full_at rfl _ _ 65 rfl elemHalves w.heap.size _ _ _ _ (l0.length + l1.length) rfl rfl (by first | rfl | omega | (simp; done)) (by first | rfl | omega | (simp; done)) (by omega) (by simp [maxLen]; omega) (Nat.le_refl _) ?_; intro vo w1 ho hb1 hs1 hvo; subst hvo))
  go_loopw [20] (fun i wr => ∃ (k : Nat) (O : List Nat), k ≤ l0.length ∧ i = .int .i64 (k : Nat) ∧ Own wr w.heap.size 67 .u32 (.slice (some ⟨w.heap.size, 0, none⟩) (l0.length + l1.length) (l0.length + l1.length)) O ∧ Hid (O.length = l0.length + l1.length) ∧ Small H O ∧
      Hid (∀ j, k + l1.length ≤ j → O[j]?.getD 0 = 0) ∧ Hid (val H O = val H (l0.take k) * val H l1) ∧ Below w.heap.size w wr ∧ w.heap.size ≤ wr.heap.size) (fun i _ => l0.length - (intOf i).toNat)
  case atStart => exact ⟨0, List.replicate (l0.length + l1.length) 0, Nat.zero_le _, rfl, ho, by simp [Hid], small_zeros (by decide) _, by unfold Hid; intro j _; simp [List.getElem?_replicate]; split <;> rfl, by unfold Hid; simp [val_zeros, val], hb1, hs1⟩
  case round =>
    obtain ⟨k, O, hk, rfl, hown, hO, hsO, hz, hv, hbel, hsz⟩ := hrel
    by_cases hkl : k < l0.length
    · obtain ⟨b, off, rfl, hbb, hcell⟩ := a4 (by omega)
      have e0 : wr.cell? ⟨b, off + k, none⟩ = some (.int .u32 (l0[k] : Nat)) := (hbel.cell (p := ⟨b, off + k, none⟩) hbb).trans (hcell k hkl)
      have x0 := small_get s0 k hkl
      obtain ⟨x, hx⟩ : ∃ x, x = l0[k] := ⟨_, rfl⟩
      rw [← hx] at e0 x0
      have Hx := hid hx; clear hx hcell a4
      unfold H at x0
      go_wp2_with fail
      go_loopw [8, 27] (fun c j wq => ∃ (i c' : Nat) (Q : List Nat), i ≤ l1.length ∧ j = .int .i64 (i : Nat) ∧ c = .int .u64 (c' : Nat) ∧ c' < 4294967296 ∧ Own wq w.heap.size 67 .u32 (.slice (some ⟨w.heap.size, 0, none⟩) (l0.length + l1.length) (l0.length + l1.length)) Q ∧ Hid (Q.length = l0.length + l1.length) ∧ Small H Q ∧
        Hid (∀ j, k + l1.length ≤ j → Q[j]?.getD 0 = 0) ∧ Hid (val H Q + c' * H ^ (k + i) = val H (l0.take k) * val H l1 + H ^ k * (x * val H (l1.take i))) ∧ Below w.heap.size w wq ∧ w.heap.size ≤ wq.heap.size) (fun _ j _ => l1.length - (intOf j).toNat)
      case atStart => exact ⟨0, 0, O, Nat.zero_le _, rfl, rfl, by omega, hown, hO, hsO, hz, by have := hv.out; unfold Hid; simp [val, this], hbel, hsz⟩
      case round =>
        obtain ⟨i, c', Q, hi, rfl, rfl, hc', hown', hQ, hsQ, hzQ, hvQ, hbel', hsz'⟩ := hrel
        by_cases hil : i < l1.length
        · obtain ⟨b', off', rfl, hbb', hcell'⟩ := b4 (by omega)
          have e1 := (hbel'.cell (p := ⟨b', off' + i, none⟩) hbb').trans (hcell' i hil)
          have y0 := small_get s1 i hil
          obtain ⟨y, hy⟩ : ∃ y, y = l1[i] := ⟨_, rfl⟩
          rw [← hy] at e1 y0
          have Hy := hid hy; clear hy hcell' b4
          unfold H at y0
          have hkq : k + i < Q.length := by rw [hQ.out]; omega
          obtain ⟨cc0, f0⟩ := hown'.cell (k + i) hkq
          have o0 := small_get hsQ (k + i) hkq
          obtain ⟨o, ho'⟩ : ∃ o, o = Q[k + i] := ⟨_, rfl⟩
          rw [← ho'] at cc0 o0
          have Ho := hid ho'; clear ho'
          unfold H at o0
          obtain ⟨m1, m2, m3⟩ := mulsum_lt x0 y0 o0 hc'
          obtain ⟨P, hP⟩ : ∃ P, P = x * y + o + c' := ⟨_, rfl⟩
          rw [← hP] at m2 m3
          have q1 : (x : Int) * (y : Int) ≤ 18446744065119617025 := by
            have : ((x * y : Nat) : Int) ≤ 18446744065119617025 := by omega
            rwa [Int.natCast_mul] at this
          have q2 : 0 ≤ (x : Int) * (y : Int) := by rw [← Int.natCast_mul]; omega
          have q3 : (x : Int) * (y : Int) + (o : Int) + (c' : Int) = (P : Int) := by rw [hP]; simp
          have q4 : (x : Int) * (y : Int) + (o : Int) + (c' : Int) ≤ 18446744073709551615 := by rw [q3]; omega
          have HP := hid hP; have Q3 := hid q3
          clear hP q3
          go_wp2
          have r1 : ((x : Int) * (y : Int) + (o : Int) + (c' : Int)) / 4294967296 = ((P / 4294967296 : Nat) : Int) := by rw [Q3.out]; omega
          have r2 : ((x : Int) * (y : Int) + (o : Int) + (c' : Int)) % 4294967296 = ((P % 4294967296 : Nat) : Int) := by rw [Q3.out]; omega
          rw [r1, r2]
          have hset := hown'.set (k + i) (P % 4294967296)
          have hz' : ∀ j, k + l1.length ≤ j → (Q.set (k + i) (P % 4294967296))[j]?.getD 0 = 0 := fun j hj => by
            rw [List.getElem?_set_ne (by omega)]; exact hzQ.out j hj
          have hv' : val H (Q.set (k + i) (P % 4294967296)) + P / 4294967296 * H ^ (k + (i + 1)) = val H (l0.take k) * val H l1 + H ^ k * (x * val H (l1.take (i + 1))) := by
            have := times_step (HI := H ^ k) (HJ := H ^ i) (y := y) hkq (show P = x * y + Q[k + i] + c' by rw [← Ho.out]; exact HP.out) (Nat.pow_add ..) hvQ.out
            rw [val_take_succ H l1 i hil, ← Hy.out]
            exact this
          go_roundw
          case rel => exact ⟨i + 1, P / 4294967296, Q.set (k + i) (P % 4294967296), by omega, by go_num, rfl, m3, hset.1, by unfold Hid; rw [List.length_set]; exact hQ.out, small_set hsQ _ (Nat.mod_lt _ (by decide)), hz', hv',
            hbel'.setCell (p := ⟨w.heap.size, k + i, none⟩) (Nat.le_refl _) _, by simpa [World.setCell] using hsz'⟩
          case measure => (simp [intOf] <;> omega)
        · obtain rfl : i = l1.length := by omega
          have hkq : k + l1.length < Q.length := by rw [hQ.out]; omega
          obtain ⟨cc0, f0⟩ := hown'.cell (k + l1.length) hkq
          have o0 : Q[k + l1.length] = 0 := by have := hzQ.out (k + l1.length) (Nat.le_refl _); simpa [hkq] using this
          have hvs := val_set H Q (k + l1.length) c' hkq
          rw [o0, Nat.mul_zero, Nat.add_zero] at hvs
          have hset := hown'.set (k + l1.length) c'
          have hv' : val H (Q.set (k + l1.length) c') = val H (l0.take (k + 1)) * val H l1 := by
            have := hvQ.out
            rw [List.take_length] at this
            rw [hvs, val_take_succ H l0 k hkl, ← Hx.out, Nat.add_mul, Nat.mul_comm (H ^ (k + l1.length)), this, Nat.mul_assoc]
          have hz' : ∀ j, k + 1 + l1.length ≤ j → (Q.set (k + l1.length) c')[j]?.getD 0 = 0 := fun j hj => by
            rw [List.getElem?_set_ne (by omega)]; exact hzQ.out j (by omega)
          have HV := hid hv'
          clear hvs hv' o0 b4
          have hmod : (c' : Int) % 4294967296 = (c' : Int) := by omega
          go_wp2
          first | rw [hmod] | skip
          go_roundw
          case rel => exact ⟨k + 1, Q.set (k + l1.length) c', by omega, by go_num, hset.1, by unfold Hid; rw [List.length_set]; exact hQ.out, small_set hsQ _ (show c' < 4294967296 from hc'), hz', HV.out,
            hbel'.setCell (p := ⟨w.heap.size, k + l1.length, none⟩) (Nat.le_refl _) _, by simpa [World.setCell] using hsz'⟩
          case measure => (simp [intOf] <;> omega)
    · obtain rfl : k = l0.length := by omega
      have hv' : Hid (strip O = dig H (val H l0 * val H l1)) := by
        have := hv.out
        rw [List.take_length] at this
        unfold Hid
        rw [← this, strip_dig H2 hsO]
      have hst := strip_length O
      have ht := hid (htrim_val _ O wr hown.at)
      clear a4 b4
      go_wp2_with (go_at_call 81; refine ht.out.mono ?_; rintro e w' ⟨rfl, rfl⟩; simp only [cutTo])
      go_ret
      exact ⟨_, rfl, by rw [← hv'.out]; have := hown.take (strip O).length hst; rwa [← strip_is_take] at this, hbel⟩
end Go.Proofs.YtippcalhcnjghaaDoor
/- elenchusref01.times: products of digits. -/
namespace Go.Proofs.YtippcalhcnjghaaDoor
open Go.RowKit Big

theorem rtimes_step {O : List Nat} {k x y c P Va Vb DI DJ : Nat} (hk : k < O.length) (hP : P = c + O[k] + x * y) (hDk : D ^ k = DI * DJ)
    (hv : val D O + c * D ^ k = Va + DI * (x * Vb)) : val D (O.set k (P % 65536)) + P / 65536 * D ^ (k + 1) = Va + DI * (x * (Vb + DJ * y)) := by
  have h1 := val_set D O k (P % 65536) hk
  have e2 : P % 65536 + D * (P / 65536) = c + O[k] + x * y := by rw [← hP]; unfold D; omega
  rw [Nat.pow_succ]
  generalize val D (O.set k (P % 65536)) = V' at *
  generalize O[k] = o at *
  generalize P % 65536 = r at *
  generalize P / 65536 = q at *
  have e3 : D ^ k * (r + D * q) = D ^ k * (c + o + x * y) := by rw [e2]
  rw [hDk] at e3 h1 hv ⊢
  have g1 : q * (DI * DJ * D) = DI * DJ * (D * q) := by rw [Nat.mul_left_comm, Nat.mul_comm q D]
  have g2 : DI * (x * (Vb + DJ * y)) = DI * (x * Vb) + DI * DJ * (x * y) := by rw [Nat.mul_add, Nat.mul_add, Nat.mul_assoc DI DJ, Nat.mul_left_comm x DJ y]
  have g3 : c * (DI * DJ) = DI * DJ * c := Nat.mul_comm ..
  simp only [Nat.mul_add] at e3
  rw [g1, g2]
  rw [g3] at hv
  omega
theorem dsum_lt {x y o c : Nat} (hx : x < 65536) (hy : y < 65536) (ho : o < 65536) (hc : c < 65536) : x * y ≤ 4294836225 ∧ c + o + x * y ≤ 4294967295 ∧ (c + o + x * y) / 65536 < 65536 := by
  have h : x * y ≤ 65535 * 65535 := Nat.mul_le_mul (by omega) (by omega)
  omega

set_option maxRecDepth 100000 in
set_option maxHeartbeats 3200000 in
theorem rtimes_any (v0 v1 : Value) (l0 l1 : List Nat) (w : World) (h0 : At w .i64 v0 l0) (h1 : At w .i64 v1 l1) (s0 : Small D l0) (s1 : Small D l1)
    (hl0 : l0.length ≤ 4398046511104) (hl1 : l1.length ≤ 4398046511104) : Calls Tryd.prog 52 #[v0, v1] w (RAt .i64 (dig D (val D l0 * val D l1)) w) := by
  have g1 : ∀ (k : Nat) W, Below w.heap.size w W → Calls Tryd.prog 71 #[v1, .int .i64 (k : Nat)] W fun e w' => e = .returned (.int .i64 (l1[k]?.getD 0 : Nat)) ∧ w' = W := fun k W hb => at_any v1 l1 k W (h1.below hb)
  have G1 := hid g1
  clear g1
  obtain ⟨p0, c0, rfl, a1, a2, a3, a4⟩ := h0
  obtain ⟨p1, c1, rfl, b1, b2, b3, -⟩ := h1
  unfold maxLen at a2 b2
  go_enter Tryd.func52, Tryd.ntmps52
  go_wp2_with (first
    | (at_make; refine wpList_full_at rfl _ _ 53 rfl elemInts w.heap.size _ _ _ _ (l0.length + l1.length + 1) rfl rfl (by first | rfl | omega | (simp; done)) (by first | rfl | omega | (simp; done)) (by omega) (by simp [maxLen]; omega) (Nat.le_refl _) ?_; intro vo w1 ho hb1 hs1 hvo; subst hvo))
  go_loopw [18] (fun i wr => ∃ (k : Nat) (O : List Nat), k ≤ l0.length ∧ i = .int .i64 (k : Nat) ∧ Own wr w.heap.size 3 .i64 (.slice (some ⟨w.heap.size, 0, none⟩) (l0.length + l1.length + 1) (l0.length + l1.length + 1)) O ∧ Hid (O.length = l0.length + l1.length + 1) ∧ Small D O ∧
      Hid (∀ j, k + l1.length ≤ j → O[j]?.getD 0 = 0) ∧ Hid (val D O = val D (l0.take k) * val D l1) ∧ Below w.heap.size w wr ∧ w.heap.size ≤ wr.heap.size) (fun i _ => l0.length - (intOf i).toNat)
  case atStart => exact ⟨0, List.replicate (l0.length + l1.length + 1) 0, Nat.zero_le _, rfl, ho, by simp [Hid], small_zeros (by decide) _, by unfold Hid; intro j _; simp [List.getElem?_replicate]; split <;> rfl, by unfold Hid; simp [val_zeros, val], hb1, hs1⟩
  case round =>
    obtain ⟨k, O, hk, rfl, hown, hO, hsO, hz, hv, hbel, hsz⟩ := hrel
    by_cases hkl : k < l0.length
    · obtain ⟨b, off, rfl, hbb, hcell⟩ := a4 (by omega)
      have x0 := small_get s0 k hkl
      obtain ⟨x, hx⟩ : ∃ x, x = l0[k] := ⟨_, rfl⟩
      have hcx := hcell k hkl
      rw [← hx] at x0 hcx
      have Hx := hid hx; have Hcx := hid hcx; clear hx hcell a4 hcx
      unfold D at x0
      go_wp2_with fail
      go_loopw [7, 8] (fun c j wq => ∃ (i c' : Nat) (Q : List Nat), (i ≤ l1.length ∨ (i = l1.length + 1 ∧ c' = 0)) ∧ j = .int .i64 (i : Nat) ∧ c = .int .i64 (c' : Nat) ∧ c' < 65536 ∧ Own wq w.heap.size 3 .i64 (.slice (some ⟨w.heap.size, 0, none⟩) (l0.length + l1.length + 1) (l0.length + l1.length + 1)) Q ∧ Hid (Q.length = l0.length + l1.length + 1) ∧ Small D Q ∧
        Hid (∀ j, k + 1 + l1.length ≤ j → Q[j]?.getD 0 = 0) ∧ Hid (i ≤ l1.length → Q[k + l1.length]?.getD 0 = 0) ∧ Hid (val D Q + c' * D ^ (k + i) = val D (l0.take k) * val D l1 + D ^ k * (x * val D (l1.take i))) ∧ Below w.heap.size w wq ∧ w.heap.size ≤ wq.heap.size) (fun _ j _ => l1.length + 2 - (intOf j).toNat)
      case atStart => exact ⟨0, 0, O, Or.inl (Nat.zero_le _), rfl, rfl, by omega, hown, hO, hsO, by intro j hj; exact hz.out j (by omega), by intro _; exact hz.out _ (Nat.le_refl _), by have := hv.out; unfold Hid; simp [val, this], hbel, hsz⟩
      case round =>
        obtain ⟨i, c', Q, hi, rfl, rfl, hc', hown', hQ, hsQ, hzQ, hzK, hvQ, hbel', hsz'⟩ := hrel
        by_cases hgo : i < l1.length ∨ 0 < c'
        · have hil : i ≤ l1.length := by omega
          have e0 : wr.cell? ⟨b, off + k, none⟩ = some (.int .i64 (x : Nat)) := (hbel'.cell (p := ⟨b, off + k, none⟩) hbb).trans Hcx.out
          obtain ⟨y, hy⟩ : ∃ y, y = l1[i]?.getD 0 := ⟨_, rfl⟩
          have y0 : y < 65536 := by rw [hy]; exact small_getD s1 (by decide) i
          have t1 := fun n => G1.out i (wr.drewN n) (below_drewN hbel' n)
          rw [← hy] at t1
          have T1 := hid t1; have Hy := hid hy; clear t1 hy
          have hkq : k + i < Q.length := by rw [hQ.out]; omega
          obtain ⟨cc0, f0⟩ := hown'.cell (k + i) hkq
          have o0 := small_get hsQ (k + i) hkq
          obtain ⟨o, ho'⟩ : ∃ o, o = Q[k + i] := ⟨_, rfl⟩
          rw [← ho'] at cc0 o0
          have Ho := hid ho'; clear ho'
          unfold D at o0
          obtain ⟨m1, m2, m3⟩ := dsum_lt x0 y0 o0 hc'
          obtain ⟨P, hP⟩ : ∃ P, P = c' + o + x * y := ⟨_, rfl⟩
          rw [← hP] at m2 m3
          have q1 : (x : Int) * (y : Int) ≤ 4294836225 := by
            have : ((x * y : Nat) : Int) ≤ 4294836225 := by omega
            rwa [Int.natCast_mul] at this
          have q2 : 0 ≤ (x : Int) * (y : Int) := by rw [← Int.natCast_mul]; omega
          have q3 : (c' : Int) + (o : Int) + (x : Int) * (y : Int) = (P : Int) := by rw [hP]; simp
          have HP := hid hP; have Q3 := hid q3
          clear hP q3
          have hset := hown'.set (k + i) (P % 65536)
          have hv' : val D (Q.set (k + i) (P % 65536)) + P / 65536 * D ^ (k + (i + 1)) = val D (l0.take k) * val D l1 + D ^ k * (x * val D (l1.take (i + 1))) := by
            have := rtimes_step (DI := D ^ k) (DJ := D ^ i) (x := x) (y := y) hkq (show P = c' + Q[k + i] + x * y by rw [← Ho.out]; exact HP.out) (Nat.pow_add ..) hvQ.out
            rw [val_take_getD D l1 i, ← Hy.out]
            exact this
          have hz' : ∀ j, k + 1 + l1.length ≤ j → (Q.set (k + i) (P % 65536))[j]?.getD 0 = 0 := fun j hj => by
            rw [List.getElem?_set_ne (by omega)]; exact hzQ.out j hj
          have hzk' : i + 1 ≤ l1.length → (Q.set (k + i) (P % 65536))[k + l1.length]?.getD 0 = 0 := fun h => by
            rw [List.getElem?_set_ne (by omega)]; exact hzK.out (by omega)
          have hn : i + 1 ≤ l1.length ∨ (i + 1 = l1.length + 1 ∧ P / 65536 = 0) := by
            by_cases h : i < l1.length
            · exact Or.inl (by omega)
            · right
              have e : i = l1.length := by omega
              refine ⟨by omega, ?_⟩
              have y00 : y = 0 := by rw [Hy.out, List.getElem?_eq_none (by omega)]; rfl
              have o00 : o = 0 := by
                have := hzK.out hil
                rw [Ho.out]
                rw [← e] at this
                simpa [hkq] using this
              rw [HP.out, y00, o00]; omega
          have Hv' := hid hv'; have Hz' := hid hz'; have Hzk' := hid hzk'; have Hn := hid hn
          clear hv' hz' hzk' hn hi
          rcases (by omega : i < l1.length ∨ (¬ i < l1.length ∧ 0 < c')) with h | ⟨h, h'⟩
          all_goals
            go_wp2_with fail
            go_quiet ((go_at_call 71; exact Calls.quiet_of_same (T1.out _)))
            go_wp2_with fail
            have r1 : ((c' : Int) + (o : Int) + (x : Int) * (y : Int)) / 65536 = ((P / 65536 : Nat) : Int) := by rw [Q3.out]; omega
            have r2 : ((c' : Int) + (o : Int) + (x : Int) * (y : Int)) % 65536 = ((P % 65536 : Nat) : Int) := by rw [Q3.out]; omega
            rw [r1, r2]
            have hset := (hown'.kept (below_drewN (Below.refl _ _) nq)).set (k + i) (P % 65536)
            go_roundw
            case rel => exact ⟨i + 1, P / 65536, Q.set (k + i) (P % 65536), Hn.out, by go_num, rfl, m3, hset.1, by unfold Hid; rw [List.length_set]; exact hQ.out, small_set hsQ _ (Nat.mod_lt _ (by decide)), Hz'.out, Hzk'.out, Hv'.out,
              (below_drewN hbel' nq).setCell (p := ⟨w.heap.size, k + i, none⟩) (Nat.le_refl _) _, by simpa [World.setCell] using hsz'⟩
            case measure => (simp [intOf] <;> omega)
        · have hc0 : c' = 0 := by omega
          subst hc0
          have h : ¬ i < l1.length := by omega
          have hv' : Hid (val D Q = val D (l0.take (k + 1)) * val D l1) := by
            have := hvQ.out
            rw [Nat.zero_mul, Nat.add_zero, val_take_ge D l1 i (by omega)] at this
            unfold Hid
            rw [this, val_take_succ D l0 k hkl, ← Hx.out, Nat.add_mul, Nat.mul_assoc]
          clear hgo hi hvQ
          go_wp2_with fail
          go_roundw
          case rel => exact ⟨k + 1, Q, by omega, by go_num, hown', hQ, hsQ, hzQ.out, hv'.out, hbel', hsz'⟩
          case measure => (simp [intOf] <;> omega)
    · obtain rfl : k = l0.length := by omega
      have hv' : Hid (strip O = dig D (val D l0 * val D l1)) := by
        have := hv.out
        rw [List.take_length] at this
        unfold Hid
        rw [← this, strip_dig D2 hsO]
      clear a4
      go_wp2_with (go_at_call 70; refine (rtrim_any _ O _ hown.at).mono ?_; rintro e w' ⟨v', rfl, hv'', rfl⟩)
      go_ret
      exact ⟨_, rfl, by rw [← hv'.out]; exact hv'', hbel⟩
end Go.Proofs.YtippcalhcnjghaaDoor
/- elenchusref01.From: digits of sixteen bits as words. -/
namespace Go.Proofs.YtippcalhcnjghaaDoor
open Go.RowKit Big

theorem take_next (l : List Nat) (i : Nat) : val D (l.take (i + 4)) = val D (l.take i) + D ^ i * (l[i]?.getD 0 + 65536 * (l[i + 1]?.getD 0 + 65536 * (l[i + 2]?.getD 0 + 65536 * l[i + 3]?.getD 0))) := by
  rw [show i + 4 = i + 3 + 1 by rfl, val_take_getD, show i + 3 = i + 2 + 1 by rfl, val_take_getD, show i + 2 = i + 1 + 1 by rfl, val_take_getD, val_take_getD]
  have h1 : D ^ (i + 1) = D ^ i * 65536 := Nat.pow_succ ..
  have h2 : D ^ (i + 1 + 1) = D ^ i * 65536 * 65536 := by rw [Nat.pow_succ, h1]; rfl
  have h3 : D ^ (i + 1 + 1 + 1) = D ^ i * 65536 * 65536 * 65536 := by rw [Nat.pow_succ, h2]; rfl
  rw [h1, h2, h3]
  grind
theorem from_step {L l : List Nat} {i j x0 x1 x2 x3 : Nat} (hi : i = 4 * j) (hL : L.length = j) (hv : val W L = val D (l.take i))
    (h0 : x0 = l[i]?.getD 0) (h1 : x1 = l[i + 1]?.getD 0) (h2 : x2 = l[i + 2]?.getD 0) (h3 : x3 = l[i + 3]?.getD 0) : val W (L ++ [((x3 * 65536 + x2) * 65536 + x1) * 65536 + x0]) = val D (l.take (i + 4)) := by
  rw [take_next, val_snoc, hv, hL, h0, h1, h2, h3, hi, show D ^ (4 * j) = W ^ j by rw [Nat.pow_mul]; rfl]
  grind

theorem num_eq {k : IntKind} {a b : Int} (h : a = b) : Value.int k a = Value.int k b := by rw [h]

/-- what has been put together of four digits -/
def acc (x0 x1 x2 x3 : Nat) : Nat → Nat
  | 0 => ((x3 * 65536 + x2) * 65536 + x1) * 65536 + x0
  | 1 => (x3 * 65536 + x2) * 65536 + x1
  | 2 => x3 * 65536 + x2
  | 3 => x3
  | _ => 0

set_option maxRecDepth 100000 in
set_option maxHeartbeats 3200000 in
theorem From_any (v : Value) (l : List Nat) (w : World) (h : At w .i64 v l) (hs : Small D l) (hlen : l.length ≤ 8796093022208) :
    Calls Tryd.prog 43 #[v] w (RAt .u64 (dig W (val D l)) w) := by
  have hv0 : val D (strip l) = val D l := by rw [strip_dig D2 hs, val_dig D2]
  have hs' : Small D (strip l) := by rw [strip_dig D2 hs]; exact small_dig D2 _
  have hl' : (strip l).length ≤ 8796093022208 := Nat.le_trans (strip_length l) hlen
  have hlast : strip l = dig D (val D l) := strip_dig D2 hs
  have G := hid (rtrim_any v l w h)
  rw [← hv0] at hlast ⊢
  clear h hlen hs hv0
  generalize strip l = l' at *
  have Hl := hid hlast; clear hlast
  go_enter Tryd.func43, Tryd.ntmps43
  go_wp2_with fail
  refine G.out.mono ?_
  rintro e w' ⟨v', rfl, ⟨p, cap, rfl, a1, a2, a3, a4⟩, rfl⟩
  unfold maxLen at a2
  go_wp2_with fail
  go_loopw [3, 4] (fun o s wr => ∃ (i j : Nat) (L : List Nat), i ≤ l'.length + 3 ∧ Hid (i = 4 * j) ∧ s = .int .i64 (i : Nat) ∧ Own wr w.heap.size 59 .u64 o L ∧ Hid (L.length = j) ∧ j ≤ i ∧ Small W L ∧
      Hid (val W L = val D (l'.take i)) ∧ Below w.heap.size w wr) (fun _ s _ => l'.length + 4 - (intOf s).toNat)
  case atStart => exact ⟨0, 0, [], by omega, rfl, rfl, Own.nil _ _ _ _, rfl, by omega, small_nil _, rfl, Below.refl _ _⟩
  case round =>
    obtain ⟨i, j, L, hi, hij, rfl, hown, hLj, hji, hsl, hv, hbel⟩ := hrel
    by_cases hil : i < l'.length
    · obtain ⟨b, off, rfl, hbb, hcell⟩ := a4 (by omega)
      obtain ⟨x0, hx0⟩ : ∃ x, x = l'[i]?.getD 0 := ⟨_, rfl⟩
      obtain ⟨x1, hx1⟩ : ∃ x, x = l'[i + 1]?.getD 0 := ⟨_, rfl⟩
      obtain ⟨x2, hx2⟩ : ∃ x, x = l'[i + 2]?.getD 0 := ⟨_, rfl⟩
      obtain ⟨x3, hx3⟩ : ∃ x, x = l'[i + 3]?.getD 0 := ⟨_, rfl⟩
      have y0 : x0 < 65536 := by rw [hx0]; exact small_getD hs' (by decide) _
      have y1 : x1 < 65536 := by rw [hx1]; exact small_getD hs' (by decide) _
      have y2 : x2 < 65536 := by rw [hx2]; exact small_getD hs' (by decide) _
      have y3 : x3 < 65536 := by rw [hx3]; exact small_getD hs' (by decide) _
      have cell : ∀ m, i + m < l'.length → wr.cell? ⟨b, off + (i + m), none⟩ = some (.int .i64 (l'[i + m]?.getD 0 : Nat)) := fun m hm => by
        rw [(hbel.cell (p := ⟨b, off + (i + m), none⟩) hbb).trans (hcell (i + m) hm)]; simp [hm]
      have zero : ∀ m, ¬ i + m < l'.length → l'[i + m]?.getD 0 = 0 := fun m hm => by rw [List.getElem?_eq_none (by omega)]; rfl
      have Cell := hid cell
      have Zero := hid zero
      have Hx0 := hid hx0; have Hx1 := hid hx1; have Hx2 := hid hx2; have Hx3 := hid hx3
      clear cell zero hx0 hx1 hx2 hx3 hcell a4
      go_wp2_with fail
      obtain ⟨wo, rfl⟩ : ∃ wo : World, wo = wr := ⟨_, rfl⟩
      go_loopw [5, 6] (fun a s wq => ∃ m : Nat, m ≤ 4 ∧ s = .int .i64 ((m : Int) - 1) ∧ a = .int .u64 (acc x0 x1 x2 x3 m : Nat) ∧ wq = wo) (fun _ s _ => (intOf s + 1).toNat)
      case atStart => exact ⟨4, by omega, rfl, rfl, rfl⟩
      case round =>
        obtain ⟨m, hm, rfl, rfl, rfl⟩ := hrel
        by_cases hm0 : 0 < m
        · rcases (by omega : m = 4 ∨ m = 3 ∨ m = 2 ∨ m = 1) with rfl | rfl | rfl | rfl
          · by_cases hin : i + 3 < l'.length
            · skip
              have c := Cell.out 3 hin
              rw [← Hx3.out] at c
              simp only [acc]
              go_wp2
              go_roundw
              case rel => exact ⟨3, by omega, rfl, num_eq (by first | rfl | omega | (simp only; omega)), by trivial⟩
              case measure => simp [intOf]
            · skip
              have hz : x3 = 0 := by rw [Hx3.out]; exact Zero.out 3 hin
              have Hz := hid hz
              clear hz
              simp only [acc]
              go_wp2
              go_roundw
              case rel => exact ⟨3, by omega, rfl, num_eq (by have := Hz.out; first | omega | (simp only; omega)), by trivial⟩
              case measure => simp [intOf]
          · by_cases hin : i + 2 < l'.length
            · skip
              have c := Cell.out 2 hin
              rw [← Hx2.out] at c
              simp only [acc]
              go_wp2
              go_roundw
              case rel => exact ⟨2, by omega, rfl, num_eq (by first | rfl | omega | (simp only; omega)), by trivial⟩
              case measure => simp [intOf]
            · skip
              have hz : x2 = 0 := by rw [Hx2.out]; exact Zero.out 2 hin
              have Hz := hid hz
              clear hz
              simp only [acc]
              go_wp2
              go_roundw
              case rel => exact ⟨2, by omega, rfl, num_eq (by have := Hz.out; first | omega | (simp only; omega)), by trivial⟩
              case measure => simp [intOf]
          · by_cases hin : i + 1 < l'.length
            · skip
              have c := Cell.out 1 hin
              rw [← Hx1.out] at c
              simp only [acc]
              go_wp2
              go_roundw
              case rel => exact ⟨1, by omega, rfl, num_eq (by first | rfl | omega | (simp only; omega)), by trivial⟩
              case measure => simp [intOf]
            · skip
              have hz : x1 = 0 := by rw [Hx1.out]; exact Zero.out 1 hin
              have Hz := hid hz
              clear hz
              simp only [acc]
              go_wp2
              go_roundw
              case rel => exact ⟨1, by omega, rfl, num_eq (by have := Hz.out; first | omega | (simp only; omega)), by trivial⟩
              case measure => simp [intOf]
          · by_cases hin : i + 0 < l'.length
            · skip
              have c := Cell.out 0 hin
              simp only [Nat.add_zero] at c
              rw [← Hx0.out] at c
              simp only [acc]
              go_wp2
              go_roundw
              case rel => exact ⟨0, by omega, rfl, num_eq (by first | rfl | omega | (simp only; omega)), by trivial⟩
              case measure => simp [intOf]
            · exact absurd hil (by simpa using hin)
        · obtain rfl : m = 0 := by omega
          simp only [acc]
          go_wp2_with (at_builtin; refine wpList_append_at rfl _ _ 23 rfl elemNat w.heap.size _ L rfl (hown.alloc _) _ [((x3 * 65536 + x2) * 65536 + x1) * 65536 + x0] rfl (At.oneI _ _ _ _ _ (by omega)) (by rw [hLj.out]; simp [maxLen]; omega) (by rw [hLj.out]; simp; omega) (by have := hbel.size; simp; omega) ?_; intro v2 w2 ho2 hb2 hs2)
          go_roundw
          case rel => exact ⟨i + 4, j + 1, L ++ [((x3 * 65536 + x2) * 65536 + x1) * 65536 + x0], by omega, by have := hij.out; unfold Hid; omega, by go_num, ho2, by have := hLj.out; unfold Hid; simp; omega, by omega,
            small_snoc hsl (by unfold W; omega), from_step hij.out hLj.out hv.out Hx0.out Hx1.out Hx2.out Hx3.out, (hbel.trans ((below1 _ _).mono hbel.size)).trans hb2⟩
          case measure => simp [intOf]; omega
    · have hv' : Hid (L = dig W (val D l')) := by
        have e := hv.out
        rw [val_take_ge _ _ _ (by omega)] at e
        unfold Hid
        rw [← e]
        refine canon W2 hsl ?_
        by_cases hj0 : j = 0
        · left; exact List.eq_nil_of_length_eq_zero (by rw [hLj.out, hj0])
        · right
          have hne : l' ≠ [] := by
            intro h0; have := hij.out; rw [h0] at hi; simp at hi; omega
          have hlen : l'.length = sz D (val D l') := by unfold sz; rw [← Hl.out]
          have hpos : 0 < val D l' := Nat.pos_of_ne_zero fun e0 => by
            have := Hl.out; rw [e0] at this; exact hne this
          have hp := pow_sz_le D2 hpos
          rw [← hlen] at hp
          rw [e, hLj.out]
          refine Nat.le_trans ?_ hp
          rw [show W ^ (j - 1) = D ^ (4 * (j - 1)) by rw [Nat.pow_mul]; rfl]
          exact Nat.pow_le_pow_right (by decide) (by have := hij.out; omega)
      clear a4 hij hv Hl
      go_wp2
      go_ret
      exact ⟨_, rfl, by rw [← hv'.out]; exact hown.at, hbel⟩
end Go.Proofs.YtippcalhcnjghaaDoor
/- whole's small functions: told, ownWord, word, own. -/
namespace Go.Proofs.YtippcalhcnjghaaDoor
open Go.RowKit Big

set_option maxHeartbeats 400000 in
theorem told_any (neg : Bool) (s : Value) (n : Nat) (w : World) (h : At w .u64 s (dig W n)) :
    Calls Tryd.prog 39 #[.bool neg, s] w (RInt (sg neg n) w) := by
  have hat := hid h
  obtain ⟨p, cap, rfl, h1, h2, h3, h4⟩ := h
  unfold maxLen at h2
  clear h4
  by_cases h0 : (dig W n).length = 0
  · have hn : n = 0 := (dig_eq_nil W2).1 (List.eq_nil_of_length_eq_zero h0)
    have Hn := hid hn; clear hn
    go_enter Tryd.func39, Tryd.ntmps39
    go_wp2
    exact bodyPost_ret (v := .agg #[.bool false, .slice none 0 0]) (by simp [results, Tryd.results39, go_sem]) rfl ⟨_, rfl, by rw [Hn.out, sg_zero]; exact IntAt.zero _, below1 _ _⟩
  · have hn : n ≠ 0 := fun e => h0 (by rw [e]; rfl)
    have Hn := hid hn; clear hn
    go_enter Tryd.func39, Tryd.ntmps39
    go_wp2
    exact bodyPost_ret (v := .agg #[.bool neg, .slice p (dig W n).length cap]) (by simp [results, Tryd.results39, go_sem]) rfl ⟨_, rfl, IntAt.mk Hn.out (hat.out.below (below1 _ _)), below1 _ _⟩

set_option maxHeartbeats 400000 in
theorem ownWord_any (x : Nat) (w : World) (hx : x < W) :
    Calls Tryd.prog 55 #[.int .u64 x] w (RAt .u64 (dig W x) w) := by
  by_cases h0 : x = 0
  · subst h0
    go_enter Tryd.func55, Tryd.ntmps55
    go_wp2
    go_ret
    exact ⟨_, rfl, At.nil _ _, Below.refl _ _⟩
  · have Hd := hid (dig_one W2 (by omega) hx)
    go_enter Tryd.func55, Tryd.ntmps55
    go_wp2
    go_ret
    exact ⟨_, rfl, by rw [Hd.out]; exact At.one _ _ _ _, below1 _ _⟩

set_option maxHeartbeats 400000 in
theorem word_any (v : Value) (l : List Nat) (w : World) (h : At w .u64 v l) :
    Calls Tryd.prog 74 #[v] w fun e w' => e = .returned (.int .u64 (l.headD 0 : Nat)) ∧ w = w' := by
  obtain ⟨p, cap, rfl, h1, h2, h3, h4⟩ := h
  unfold maxLen at h2
  cases l with
  | nil =>
    go_enter Tryd.func74, Tryd.ntmps74
    go_wp2
    go_ret
    exact ⟨rfl, rfl⟩
  | cons x l =>
    obtain ⟨b, off, rfl, hb, hc⟩ := h4 (by simp)
    have hck : w.cell? ⟨b, off, none⟩ = some (.int .u64 x) := hc 0 (by simp)
    clear hc h4
    have hl : (l.length + 1 == 0) = false := by simp
    have hl2 : 0 < l.length + 1 := by omega
    rw [List.length_cons] at *
    go_enter Tryd.func74, Tryd.ntmps74
    go_wp2
    go_ret
    exact ⟨rfl, rfl⟩

end Go.Proofs.YtippcalhcnjghaaDoor
/- whole.own, whole.plus: sums of words with carries. -/
namespace Go.Proofs.YtippcalhcnjghaaDoor
open Go.RowKit Big

set_option maxHeartbeats 400000 in
theorem own_any (v : Value) (l : List Nat) (w : World) (h : At w .u64 v l) (hl : l.length ≤ 1099511627776) :
    Calls Tryd.prog 49 #[v] w (ROwn 59 .u64 (strip l) w) := by
  have hs := strip_length l
  go_enter Tryd.func49, Tryd.ntmps49
  go_wp2_with (first
    | (go_at_call 38; refine (trim_any _ l _ h).mono ?_; rintro e w' ⟨v', rfl, hv', rfl⟩)
    | (at_builtin; refine wpList_append_at rfl _ _ 23 rfl elemNat w.heap.size _ [] rfl (Own.nil _ _ _ _) _ (strip l) rfl hv' (by simp [maxLen]; omega) (by simp; omega) (Nat.le_refl _) ?_; intro v2 w2 ho hb _))
  go_ret
  exact ⟨_, rfl, by simpa using ho, hb⟩

/-- math/bits.Add64, its sum and carry under names -/
theorem add64 (x y c : Nat) (hc : c ≤ 1) : ∃ s c', x + y + c = s + W * c' ∧ s < W ∧ (x < W → y < W → c' ≤ 1) ∧
    ∀ w, (callFunc 67 #[.int .u64 (x : Nat), .int .u64 (y : Nat), .int .u64 (c : Nat)]).run Tryd.prog w = .ok (.value (.tuple #[.int .u64 (s : Nat), .int .u64 (c' : Nat)])) w := by
  refine ⟨(x + y + c) % W, (x + y + c) / W, (Nat.mod_add_div _ _).symm, Nat.mod_lt _ (by decide), ?_, fun w => ?_⟩
  · intro h1 h2
    have : (x + y + c) / W < 2 := (Nat.div_lt_iff_lt_mul (by decide)).2 (by omega)
    omega
  · rw [run_callFunc_extern Tryd.func67 (by kernel_rfl) (by kernel_rfl) (by kernel_rfl) (e := add64Entry) (by kernel_rfl), run_add64 x y c (by omega) (by omega) (by omega) (by omega)]
    simp only [Result.andThen, W]
    congr 5 <;> omega
/-- math/bits.Sub64, likewise -/
theorem sub64 (x y b : Nat) (hx : x < W) (hy : y < W) (hb : b ≤ 1) : ∃ s b', x + W * b' = s + y + b ∧ s < W ∧ b' ≤ 1 ∧
    ∀ w, (callFunc 69 #[.int .u64 (x : Nat), .int .u64 (y : Nat), .int .u64 (b : Nat)]).run Tryd.prog w = .ok (.value (.tuple #[.int .u64 (s : Nat), .int .u64 (b' : Nat)])) w := by
  unfold W at *
  refine ⟨(x + 18446744073709551616 - y - b) % 18446744073709551616, if x < y + b then 1 else 0, ?_, Nat.mod_lt _ (by decide), ?_, fun w => ?_⟩
  · split <;> omega
  · split <;> omega
  · rw [run_callFunc_extern Tryd.func69 (by kernel_rfl) (by kernel_rfl) (by kernel_rfl) (e := sub64Entry) (by kernel_rfl), run_sub64 x y b hb]
    rfl

def RPlus (l0 l1 : List Nat) (w : World) (e : Ending) (w' : World) : Prop := ∃ l c, Small W l ∧ l.length = l0.length ∧ c ≤ 1 ∧ val W l + c * W ^ l0.length = val W l0 + val W l1 ∧
      ROwn 59 .u64 (if c = 0 then l else l ++ [c]) w e w'
theorem plus_step {l l0 l1 : List Nat} {k x y c s c2 : Nat} {hk : k < l0.length} (hl : l.length = k) (hx : x = l0[k]) (hy : y = l1[k]?.getD 0) (hs : x + y + c = s + W * c2)
    (hv : val W l + c * W ^ k = val W (l0.take k) + val W (l1.take k)) : val W (l ++ [s]) + c2 * W ^ (k + 1) = val W (l0.take (k + 1)) + val W (l1.take (k + 1)) := by
  rw [val_snoc, val_take_succ W l0 k hk, val_take_getD, hl, ← hx, ← hy, Nat.pow_succ]
  exact add_step hs hv

set_option maxRecDepth 100000 in
set_option maxHeartbeats 800000 in
theorem plus_at (sw : Bool) (v0 v1 : Value) (l0 l1 : List Nat) (w : World) (h0 : At w .u64 v0 l0) (h1 : At w .u64 v1 l1) (s0 : Small W l0) (s1 : Small W l1)
    (hl : if sw then l1.length < l0.length else l1.length ≤ l0.length) (hlen : l0.length ≤ 1099511627776) :
    Calls Tryd.prog 40 (if sw then #[v1, v0] else #[v0, v1]) w (RPlus l0 l1 w) := by
  obtain ⟨p0, c0, rfl, a1, a2, a3, a4⟩ := h0
  obtain ⟨p1, c1, rfl, b1, b2, b3, b4⟩ := h1
  cases sw
  all_goals
    first | simp only [if_true] at hl ⊢ | simp only [if_false, Bool.false_eq_true] at hl ⊢
    go_enter Tryd.func40, Tryd.ntmps40
    unfold maxLen at a2 b2
    go_wp2_with (first
      | (at_make; refine wpList_make_at rfl _ _ 23 rfl elemNat w.heap.size _ _ _ (l0.length + 1) rfl rfl (by simp) (by omega) (by simp [maxLen]; omega) (Nat.le_refl _) ?_; intro vo w1 ho hb1 hs1 hvo; clear hvo))
    go_loopw [5, 6, 23] (fun o c i wr => ∃ (k : Nat) (l : List Nat) (c' : Nat), k ≤ l0.length ∧ i = .int .i64 (k : Nat) ∧ c = .int .u64 (c' : Nat) ∧ c' ≤ 1 ∧ Own wr w.heap.size 59 .u64 o l ∧ l.length = k ∧ Small W l ∧
        Hid (val W l + c' * W ^ k = val W (l0.take k) + val W (l1.take k)) ∧ Below w.heap.size w wr) (fun _ _ i _ => l0.length - (intOf i).toNat)
    case atStart => exact ⟨0, [], 0, Nat.zero_le _, rfl, rfl, by omega, ho, rfl, small_nil _, by simp [Hid, val], hb1⟩
    case round =>
      obtain ⟨k, l, c', hk, rfl, rfl, hc', hown, hlk, hsl, hv, hbel⟩ := hrel
      have Hlk := hid hlk; clear hlk
      by_cases hkl : k < l0.length
      · obtain ⟨b, off, rfl, hbb, hcell⟩ := a4 (by omega)
        have e0 : wr.cell? ⟨b, off + k, none⟩ = some (.int .u64 (l0[k] : Nat)) := (hbel.cell (p := ⟨b, off + k, none⟩) hbb).trans (hcell k hkl)
        have x0 := small_get s0 k hkl
        obtain ⟨x, hx⟩ : ∃ x, x = l0[k] := ⟨_, rfl⟩
        rw [← hx] at e0 x0
        have Hx := hid hx; clear hx hcell a4
        by_cases hk1 : k < l1.length
        · obtain ⟨b', off', rfl, hbb', hcell'⟩ := b4 (by omega)
          have e1 : wr.cell? ⟨b', off' + k, none⟩ = some (.int .u64 (l1[k] : Nat)) := (hbel.cell (p := ⟨b', off' + k, none⟩) hbb').trans (hcell' k hk1)
          have y0 := small_get s1 k hk1
          obtain ⟨y, hy⟩ : ∃ y, y = l1[k] := ⟨_, rfl⟩
          rw [← hy] at e1 y0
          have Hy : Hid (y = l1[k]?.getD 0) := by unfold Hid; simpa [hk1] using hy
          clear hy hcell' b4
          obtain ⟨s, c2, hs, hsW, hc2, hadd⟩ := add64 x y c' hc'
          have hc2 := hc2 x0 y0
          have Hs := hid hs; clear hs
          go_wp2_with (first
            | (at_builtin; refine wpList_append_at rfl _ _ 23 rfl elemNat w.heap.size _ l rfl (hown.alloc _) _ [s] rfl (At.one _ _ _ _) (by rw [Hlk.out]; simp [maxLen]; omega) (by rw [Hlk.out]; simp; omega) (by have := hbel.size; simp; omega) ?_; intro v2 w2 ho2 hb2 hs2))
          go_roundw
          case rel => exact ⟨k + 1, l ++ [s], c2, by omega, by go_num, rfl, hc2, ho2, by simp [Hlk.out], small_snoc hsl hsW,
              plus_step Hlk.out Hx.out Hy.out Hs.out hv.out, (hbel.trans ((below1 _ _).mono hbel.size)).trans hb2⟩
          case measure => simp [intOf]; omega
        · obtain ⟨y, hy⟩ : ∃ y, y = 0 := ⟨_, rfl⟩
          have y0 : y < W := by rw [hy]; decide
          have Hy : Hid (y = l1[k]?.getD 0) := by unfold Hid; simpa [hk1] using hy
          obtain ⟨s, c2, hs, hsW, hc2, hadd⟩ := add64 x y c' hc'
          have hc2 := hc2 x0 y0
          have Hs := hid hs; clear hs
          rw [hy] at hadd; simp only [Int.natCast_zero] at hadd; clear hy
          go_wp2_with (first
            | (at_builtin; refine wpList_append_at rfl _ _ 23 rfl elemNat w.heap.size _ l rfl (hown.alloc _) _ [s] rfl (At.one _ _ _ _) (by rw [Hlk.out]; simp [maxLen]; omega) (by rw [Hlk.out]; simp; omega) (by have := hbel.size; simp; omega) ?_; intro v2 w2 ho2 hb2 hs2))
          go_roundw
          case rel => exact ⟨k + 1, l ++ [s], c2, by omega, by go_num, rfl, hc2, ho2, by simp [Hlk.out], small_snoc hsl hsW,
              plus_step Hlk.out Hx.out Hy.out Hs.out hv.out, (hbel.trans ((below1 _ _).mono hbel.size)).trans hb2⟩
          case measure => simp [intOf]; omega
      · obtain rfl : k = l0.length := by omega
        have hv' : val W l + c' * W ^ l0.length = val W l0 + val W l1 := by
          have := hv.out
          rwa [List.take_length, val_take_ge W l1 _ (by omega)] at this
        have Hv := hid hv'; clear hv hv' a4 b4
        by_cases hc0 : c' = 0
        · subst hc0
          go_wp2
          go_ret
          exact ⟨l, 0, hsl, Hlk.out, by omega, Hv.out, _, rfl, by simpa using hown, hbel⟩
        · obtain rfl : c' = 1 := by omega
          go_wp2_with (first
            | (at_builtin; refine wpList_append_at rfl _ _ 23 rfl elemNat w.heap.size _ l rfl (hown.alloc _) _ [1] rfl (At.one _ _ _ _) (by rw [Hlk.out]; simp [maxLen]; omega) (by rw [Hlk.out]; simp; omega) (by have := hbel.size; simp; omega) ?_; intro v2 w2 ho2 hb2 hs2))
          go_ret
          exact ⟨l, 1, hsl, Hlk.out, by omega, Hv.out, _, rfl, by simpa using ho2, (hbel.trans ((below1 _ _).mono hbel.size)).trans hb2⟩

/-- whole.plus of two numbers' digits: the sum's digits -/
theorem plus_any (va vb : Value) (n m : Nat) (w : World) (h0 : At w .u64 va (dig W n)) (h1 : At w .u64 vb (dig W m)) (hn : sz W n ≤ 1099511627776) (hm : sz W m ≤ 1099511627776) :
    Calls Tryd.prog 40 #[va, vb] w (ROwn 59 .u64 (dig W (n + m)) w) := by
  have key : ∀ l0 l1 : Nat, sz W l1 ≤ sz W l0 → ∀ e w', RPlus (dig W l0) (dig W l1) w e w' → ROwn 59 .u64 (dig W (l0 + l1)) w e w' := by
    rintro n m hnm e w' ⟨l, c, hs, hl, hc, hv, hr⟩
    rw [val_dig W2, val_dig W2] at hv
    have : (if c = 0 then l else l ++ [c]) = dig W (n + m) := by
      by_cases hc0 : c = 0
      · subst hc0
        rw [if_pos rfl]
        refine canon_val W2 hs (by omega) ?_
        by_cases h0 : n = 0
        · left; subst h0; exact List.eq_nil_of_length_eq_zero hl
        · right; rw [hl]; exact Nat.le_trans (pow_sz_le W2 (by omega)) (by omega)
      · obtain rfl : c = 1 := by omega
        rw [if_neg hc0]
        refine canon_val W2 (small_snoc hs (by decide)) (by rw [val_snoc, hl]; omega) (Or.inr ?_)
        simp only [List.length_append, List.length_singleton, Nat.add_sub_cancel, hl]
        omega
    rw [← this]; exact hr
  by_cases hlt : (dig W n).length < (dig W m).length
  · have := plus_at true vb va (dig W m) (dig W n) w h1 h0 (small_dig W2 _) (small_dig W2 _) (by simpa using hlt) hm
    refine this.mono fun e w' h => ?_
    rw [Nat.add_comm]
    exact key m n (Nat.le_of_lt hlt) e w' h
  · have := plus_at false va vb (dig W n) (dig W m) w h0 h1 (small_dig W2 _) (small_dig W2 _) (by simpa using hlt) hn
    exact this.mono fun e w' h => key n m (by unfold sz; omega) e w' h
end Go.Proofs.YtippcalhcnjghaaDoor
/- whole.minus: differences of words with borrows. -/
namespace Go.Proofs.YtippcalhcnjghaaDoor
open Go.RowKit Big

theorem minus_step {l l0 l1 : List Nat} {k x y c s c2 : Nat} {hk : k < l0.length} (hl : l.length = k) (hx : x = l0[k]) (hy : y = l1[k]?.getD 0) (hs : x + W * c2 = s + y + c)
    (hv : val W l + val W (l1.take k) = val W (l0.take k) + c * W ^ k) : val W (l ++ [s]) + val W (l1.take (k + 1)) = val W (l0.take (k + 1)) + c2 * W ^ (k + 1) := by
  rw [val_snoc, val_take_succ W l0 k hk, val_take_getD, hl, ← hx, ← hy, Nat.pow_succ]
  exact sub_step hs hv

set_option maxRecDepth 100000 in
set_option maxHeartbeats 800000 in
/-- whole.minus of two numbers' digits, the second no greater: the difference's digits -/
theorem minus_any (v0 v1 : Value) (n m : Nat) (w : World) (h0 : At w .u64 v0 (dig W n)) (h1 : At w .u64 v1 (dig W m)) (hmn : m ≤ n) (hlen : sz W n ≤ 1099511627776) :
    Calls Tryd.prog 42 #[v0, v1] w (RAt .u64 (dig W (n - m)) w) := by
  have s0 := small_dig W2 n
  have s1 := small_dig W2 m
  have hl : (dig W m).length ≤ (dig W n).length := sz_mono W2 hmn
  have hvv : val W (dig W m) ≤ val W (dig W n) ∧ val W (dig W n) - val W (dig W m) = n - m := by rw [val_dig W2, val_dig W2]; exact ⟨hmn, rfl⟩
  unfold sz at hlen
  have Hvv := hid hvv; clear hvv hmn
  obtain ⟨r, hr⟩ : ∃ r, r = dig W (n - m) := ⟨_, rfl⟩
  rw [← hr]
  have Hr := hid hr; clear hr
  generalize dig W n = l0 at *
  generalize dig W m = l1 at *
  obtain ⟨p0, c0, rfl, a1, a2, a3, a4⟩ := h0
  obtain ⟨p1, c1, rfl, b1, b2, b3, b4⟩ := h1
  unfold maxLen at a2 b2
  go_enter Tryd.func42, Tryd.ntmps42
  go_wp2_with (first
    | (at_make; refine wpList_make_at rfl _ _ 23 rfl elemNat w.heap.size _ _ _ l0.length rfl rfl (by simp) (by omega) (by simp [maxLen]; omega) (Nat.le_refl _) ?_; intro vo w1 ho hb1 hs1 hvo; clear hvo))
  go_loopw [5, 6, 15] (fun o c i wr => ∃ (k : Nat) (l : List Nat) (c' : Nat), k ≤ l0.length ∧ i = .int .i64 (k : Nat) ∧ c = .int .u64 (c' : Nat) ∧ c' ≤ 1 ∧ Own wr w.heap.size 59 .u64 o l ∧ l.length = k ∧ Small W l ∧
      Hid (val W l + val W (l1.take k) = val W (l0.take k) + c' * W ^ k) ∧ Below w.heap.size w wr) (fun _ _ i _ => l0.length - (intOf i).toNat)
  case atStart => exact ⟨0, [], 0, Nat.zero_le _, rfl, rfl, by omega, ho, rfl, small_nil _, by simp [Hid, val], hb1⟩
  case round =>
    obtain ⟨k, l, c', hk, rfl, rfl, hc', hown, hlk, hsl, hv, hbel⟩ := hrel
    have Hlk := hid hlk; clear hlk
    by_cases hkl : k < l0.length
    · obtain ⟨b, off, rfl, hbb, hcell⟩ := a4 (by omega)
      have e0 : wr.cell? ⟨b, off + k, none⟩ = some (.int .u64 (l0[k] : Nat)) := (hbel.cell (p := ⟨b, off + k, none⟩) hbb).trans (hcell k hkl)
      have x0 := small_get s0 k hkl
      obtain ⟨x, hx⟩ : ∃ x, x = l0[k] := ⟨_, rfl⟩
      rw [← hx] at e0 x0
      have Hx := hid hx; clear hx hcell a4
      by_cases hk1 : k < l1.length
      · obtain ⟨b', off', rfl, hbb', hcell'⟩ := b4 (by omega)
        have e1 : wr.cell? ⟨b', off' + k, none⟩ = some (.int .u64 (l1[k] : Nat)) := (hbel.cell (p := ⟨b', off' + k, none⟩) hbb').trans (hcell' k hk1)
        have y0 := small_get s1 k hk1
        obtain ⟨y, hy⟩ : ∃ y, y = l1[k] := ⟨_, rfl⟩
        rw [← hy] at e1 y0
        have Hy : Hid (y = l1[k]?.getD 0) := by unfold Hid; simpa [hk1] using hy
        clear hy hcell' b4
        obtain ⟨s, c2, hs, hsW, hc2, hadd⟩ := sub64 x y c' x0 y0 hc'
        have Hs := hid hs; clear hs
        go_wp2_with (first
          | (at_builtin; refine wpList_append_at rfl _ _ 23 rfl elemNat w.heap.size _ l rfl (hown.alloc _) _ [s] rfl (At.one _ _ _ _) (by rw [Hlk.out]; simp [maxLen]; omega) (by rw [Hlk.out]; simp; omega) (by have := hbel.size; simp; omega) ?_; intro v2 w2 ho2 hb2 hs2))
        go_roundw
        case rel => exact ⟨k + 1, l ++ [s], c2, by omega, by go_num, rfl, hc2, ho2, by simp [Hlk.out], small_snoc hsl hsW,
            minus_step Hlk.out Hx.out Hy.out Hs.out hv.out, (hbel.trans ((below1 _ _).mono hbel.size)).trans hb2⟩
        case measure => simp [intOf]; omega
      · obtain ⟨y, hy⟩ : ∃ y, y = 0 := ⟨_, rfl⟩
        have y0 : y < W := by rw [hy]; decide
        have Hy : Hid (y = l1[k]?.getD 0) := by unfold Hid; simpa [hk1] using hy
        obtain ⟨s, c2, hs, hsW, hc2, hadd⟩ := sub64 x y c' x0 y0 hc'
        have Hs := hid hs; clear hs
        rw [hy] at hadd; simp only [Int.natCast_zero] at hadd; clear hy
        go_wp2_with (first
          | (at_builtin; refine wpList_append_at rfl _ _ 23 rfl elemNat w.heap.size _ l rfl (hown.alloc _) _ [s] rfl (At.one _ _ _ _) (by rw [Hlk.out]; simp [maxLen]; omega) (by rw [Hlk.out]; simp; omega) (by have := hbel.size; simp; omega) ?_; intro v2 w2 ho2 hb2 hs2))
        go_roundw
        case rel => exact ⟨k + 1, l ++ [s], c2, by omega, by go_num, rfl, hc2, ho2, by simp [Hlk.out], small_snoc hsl hsW,
            minus_step Hlk.out Hx.out Hy.out Hs.out hv.out, (hbel.trans ((below1 _ _).mono hbel.size)).trans hb2⟩
        case measure => simp [intOf]; omega
    · obtain rfl : k = l0.length := by omega
      have hv' : val W l + val W l1 = val W l0 + c' * W ^ l0.length := by
        have := hv.out
        rwa [List.take_length, val_take_ge W l1 _ (by omega)] at this
      have hlt := val_lt (by decide : 0 < W) hsl
      have e : strip l = r := by
        rw [strip_dig W2 hsl, Hr.out, ← Hvv.out.2]
        have := Hvv.out.1
        rw [Hlk.out] at hlt
        have : c' = 0 := by
          rcases (by omega : c' = 0 ∨ c' = 1) with h | h
          · exact h
          · subst h; omega
        subst this
        congr 1; omega
      have He := hid e; clear hv hv' e hlt a4 b4
      go_wp2_with (first
        | (go_at_call 38; refine (trim_any _ l _ hown.at).mono ?_; rintro e w' ⟨v', rfl, hv', rfl⟩))
      go_ret
      exact ⟨_, rfl, by rw [← He.out]; exact hv', hbel⟩
end Go.Proofs.YtippcalhcnjghaaDoor
/- whole.compare: the order of sizes. -/
namespace Go.Proofs.YtippcalhcnjghaaDoor
open Go.RowKit Big

def ord (a b : Int) : Int := if a < b then -1 else if b < a then 1 else 0
theorem ord_lt {a b : Int} (h : a < b) : ord a b = -1 := by simp [ord, h]
theorem ord_gt {a b : Int} (h : b < a) : ord a b = 1 := by simp [ord, h]; omega
theorem ord_eq (a : Int) : ord a a = 0 := by simp [ord]

theorem cmpInt_any (a b : Int) (w : World) :
    Calls Tryd.prog 48 #[.int .i64 a, .int .i64 b] w fun e w' => e = .returned (.int .i64 (ord a b)) ∧ w' = w := by
  rcases Int.lt_trichotomy a b with h | h | h
  · rw [ord_lt h]
    go_enter Tryd.func48, Tryd.ntmps48
    go_wp2
    go_ret
    exact ⟨rfl, rfl⟩
  · subst h
    rw [ord_eq]
    go_enter Tryd.func48, Tryd.ntmps48
    go_wp2
    go_ret
    exact ⟨rfl, rfl⟩
  · have h' : ¬ a < b := by omega
    rw [ord_gt h]
    go_enter Tryd.func48, Tryd.ntmps48
    go_wp2
    go_ret
    exact ⟨rfl, rfl⟩
theorem cmpWord_any (a b : Int) (w : World) :
    Calls Tryd.prog 68 #[.int .u64 a, .int .u64 b] w fun e w' => e = .returned (.int .i64 (ord a b)) ∧ w' = w := by
  rcases Int.lt_trichotomy a b with h | h | h
  · rw [ord_lt h]
    go_enter Tryd.func68, Tryd.ntmps68
    go_wp2
    go_ret
    exact ⟨rfl, rfl⟩
  · subst h
    rw [ord_eq]
    go_enter Tryd.func68, Tryd.ntmps68
    go_wp2
    go_ret
    exact ⟨rfl, rfl⟩
  · have h' : ¬ a < b := by omega
    rw [ord_gt h]
    go_enter Tryd.func68, Tryd.ntmps68
    go_wp2
    go_ret
    exact ⟨rfl, rfl⟩

theorem drawn_more {w wr : World} {n : Nat} (h : ∃ j, wr = w.drewN j) : ∃ j, wr.drewN n = w.drewN j := by
  obtain ⟨j, rfl⟩ := h
  exact ⟨j + n, by rw [World.drewN_drewN]⟩
def ROrd (z : Int) (w : World) (e : Ending) (w' : World) : Prop := e = .returned (.int .i64 z) ∧ ∃ k, w' = w.drewN k

/-- the order, seen at the highest digits that part -/
theorem ord_part {l0 l1 : List Nat} {n m : Nat} (s0 : Small W l0) (s1 : Small W l1) (h0 : val W l0 = n) (h1 : val W l1 = m) {k : Nat} (hk0 : k < l0.length) (hk1 : k < l1.length)
    (hd : l0.drop (k + 1) = l1.drop (k + 1)) (hne : l0[k] ≠ l1[k]) : ord (l0[k] : Nat) (l1[k] : Nat) = ord n m := by
  rcases Nat.lt_or_ge l0[k] l1[k] with h | h
  · have := val_lt_of_part s0 hk0 hk1 hd h
    rw [ord_lt (by omega), ord_lt (by omega)]
  · have := val_lt_of_part s1 hk1 hk0 hd.symm (show l1[k] < l0[k] by omega)
    rw [ord_gt (by omega), ord_gt (by omega)]

set_option maxRecDepth 100000 in
set_option maxHeartbeats 800000 in
theorem compare_any (v0 v1 : Value) (n m : Nat) (w : World) (h0 : At w .u64 v0 (dig W n)) (h1 : At w .u64 v1 (dig W m)) :
    Calls Tryd.prog 41 #[v0, v1] w (ROrd (ord n m) w) := by
  have s0 := small_dig W2 n
  have s1 := small_dig W2 m
  have k1 : (dig W n).length < (dig W m).length → n < m := lt_of_sz_lt W2
  have k2 : (dig W m).length < (dig W n).length → m < n := lt_of_sz_lt W2
  have hv0 := val_dig W2 n
  have hv1 := val_dig W2 m
  generalize dig W n = l0 at *
  generalize dig W m = l1 at *
  have Hv0 := hid hv0; clear hv0
  have Hv1 := hid hv1; clear hv1
  obtain ⟨p0, c0, rfl, a1, a2, a3, a4⟩ := h0
  obtain ⟨p1, c1, rfl, b1, b2, b3, b4⟩ := h1
  unfold maxLen at a2 b2
  by_cases hl : l0.length = l1.length
  · have Hl := hid hl
    rw [hl] at a1 ⊢; clear hl
    go_enter Tryd.func41, Tryd.ntmps41
    go_wp2_with fail
    go_loopw [5] (fun i wr => ∃ (k : Nat), k ≤ l1.length ∧ i = .int .i64 ((k : Int) - 1) ∧ Hid (l0.drop k = l1.drop k) ∧ Hid (∃ j, wr = w.drewN j)) (fun i _ => (intOf i + 1).toNat)
    case atStart => exact ⟨l1.length, Nat.le_refl _, rfl, by unfold Hid; rw [List.drop_length, ← Hl.out, List.drop_length], 0, rfl⟩
    case round =>
      obtain ⟨k, hk, rfl, hd, Hw⟩ := hrel
      by_cases hk0 : 0 < k
      · obtain ⟨k, rfl⟩ : ∃ k', k = k' + 1 := ⟨k - 1, by omega⟩
        have hkl : k < l0.length := by rw [Hl.out]; omega
        obtain ⟨b, off, rfl, hbb, hc0⟩ := a4 (Nat.lt_of_le_of_lt (Nat.zero_le _) hkl)
        obtain ⟨b', off', rfl, hbb', hc1⟩ := b4 (by omega)
        have e0 : wr.cell? ⟨b, off + k, none⟩ = some (.int .u64 (l0[k] : Nat)) := by obtain ⟨j, rfl⟩ := Hw.out; exact hc0 k hkl
        have e1 : wr.cell? ⟨b', off' + k, none⟩ = some (.int .u64 (l1[k] : Nat)) := by obtain ⟨j, rfl⟩ := Hw.out; exact hc1 k (by omega)
        have ep := ord_part s0 s1 Hv0.out Hv1.out hkl (show k < l1.length by omega) hd.out
        have es : l0[k] = l1[k] → l0.drop k = l1.drop k := fun h => by
          rw [List.drop_eq_getElem_cons hkl, List.drop_eq_getElem_cons (show k < l1.length by omega), h, hd.out]
        generalize l0[k] = x at *
        generalize l1[k] = y at *
        have Ep := hid ep
        have Es : Hid (x = y → l0.drop k = l1.drop k) := es
        clear a4 b4 hc0 hc1 ep es hbb hbb' s0 s1 k1 k2
        have hlow : (0 : Int) ≤ (k : Int) + 1 - 1 := by omega
        have hsp : (k : Int) + 1 - 1 = (k : Int) := by omega
        by_cases hxy : x = y
        · subst hxy
          go_wp2
          go_quiet (fail)
          go_wp2
          go_roundw
          case rel => exact ⟨k, by omega, rfl, Es.out (by trivial), drawn_more Hw.out⟩
          case measure => simp [intOf]
        · have hb : ((x : Int) != (y : Int)) = true := bne_iff_ne.2 (fun h => hxy (by omega))
          go_wp2
          go_quiet (fail)
          go_wp2
          go_quiet ((go_at_call 68; exact quiet_add_same (cmpWord_any _ _ _)))
          go_wp2
          go_ret
          exact ⟨by rw [← Ep.out (fun h => hxy h)]; rfl, drawn_more (drawn_more Hw.out)⟩
      · obtain rfl : k = 0 := by omega
        have hn : ord n m = 0 := by
          have h := hd.out
          rw [List.drop_zero, List.drop_zero] at h
          rw [← Hv0.out, ← Hv1.out, h]; exact ord_eq _
        have Hn := hid hn
        clear hn a4 b4 k1 k2 hd
        go_wp2
        go_ret
        exact ⟨by rw [Hn.out]; rfl, Hw.out⟩
  · have hn : (l0.length < l1.length ∧ ord l0.length l1.length = ord n m) ∨ (l1.length < l0.length ∧ ord l0.length l1.length = ord n m) := by
      rcases Nat.lt_or_ge l0.length l1.length with h | h
      · exact Or.inl ⟨h, by have := k1 h; rw [ord_lt (by omega), ord_lt (by omega)]⟩
      · exact Or.inr ⟨by omega, by have := k2 (by omega); rw [ord_gt (by omega), ord_gt (by omega)]⟩
    have Hn : Hid (ord l0.length l1.length = ord n m) := by rcases hn with h | h <;> exact h.2
    clear hn a4 b4 k1 k2
    have hb : ((l0.length : Int) != (l1.length : Int)) = true := bne_iff_ne.2 (by omega)
    go_enter Tryd.func41, Tryd.ntmps41
    go_wp2_with (go_at_call 48; refine (cmpInt_any _ _ _).mono ?_; rintro e w' ⟨rfl, rfl⟩)
    go_ret
    exact ⟨by rw [← Hn.out]; rfl, 0, rfl⟩
end Go.Proofs.YtippcalhcnjghaaDoor
/- whole.Norm, Neg, Sign, Cmp, Add, Sub. -/
namespace Go.Proofs.YtippcalhcnjghaaDoor
open Go.RowKit Big

set_option maxHeartbeats 800000 in
theorem Norm_any (v : Value) (z : Int) (w : World) (h : RawAt w v z) : Calls Tryd.prog 23 #[v] w (RInt z w) := by
  obtain ⟨neg, s, l, rfl, ha, hs, hl, rfl⟩ := h
  have Hs := hid (strip_dig W2 hs)
  go_enter Tryd.func23, Tryd.ntmps23
  go_wp2_with fail
  go_region_held3 (fun w' => w'.cell? ⟨w.heap.size, 0, none⟩ = some (.bool neg) ∧ w'.cell? ⟨w.heap.size, 1, none⟩ = some s ∧ Pair w' (w.heap.size + 1) 25)
    (first | (go_split_ands; (try dsimp only); (repeat' apply And.intro) <;> first | assumption | exact Pair.drew ‹_› | exact Pair.below ‹_› hb9 | exact Pair.below ‹_› hb8 | exact Pair.below ‹_› hb7 | exact Pair.below ‹_› hb6 | exact Pair.below ‹_› hb5 | exact Pair.below ‹_› hb4 | exact Pair.below ‹_› hb3 | exact Pair.below ‹_› hb2 | exact Pair.below ‹_› hb1 | exact (hb9.cell (by first | omega | (simp; omega) | (simp; done))).trans ‹_› | exact (hb8.cell (by first | omega | (simp; omega) | (simp; done))).trans ‹_› | exact (hb7.cell (by first | omega | (simp; omega) | (simp; done))).trans ‹_› | exact (hb6.cell (by first | omega | (simp; omega) | (simp; done))).trans ‹_› | exact (hb5.cell (by first | omega | (simp; omega) | (simp; done))).trans ‹_› | exact (hb4.cell (by first | omega | (simp; omega) | (simp; done))).trans ‹_› | exact (hb3.cell (by first | omega | (simp; omega) | (simp; done))).trans ‹_› | exact (hb2.cell (by first | omega | (simp; omega) | (simp; done))).trans ‹_› | exact (hb1.cell (by first | omega | (simp; omega) | (simp; done))).trans ‹_› | exact Pair.set1 (Pair.set0 ‹_› _) _ _ _ | exact (cell_stored _ (by first | (dsimp only; omega) | (simp; done) | (simp; omega)) _ _).trans ‹_› | exact Pair.drew (Pair.below ‹_› (below1 _ _)) | exact Pair.below ‹_› (below1 _ _) | exact Pair.far ‹_› (by omega) hb1 | exact Pair.new .. | exact Pair.new1 .. | exact Pair.new2 .. | (go_keep; done)) | (go_keep; done))
    (first
      | (go_at_call 49; refine (own_any s l _ ?_ hl).mono ?_; (repeat (first | exact ha | apply At.drew | apply At.alloc)); rintro e w1 ⟨v1, rfl, ho1, hb1⟩; have hz1 : w.heap.size + 2 ≤ w1.heap.size := (by have := hb1.size; simp at this; omega))
      | (go_at_call 39; refine (told_any neg _ _ _ (by rw [← Hs.out]; exact ho1.at)).mono ?_; rintro e w2 ⟨v2, rfl, hi2, hb2⟩; obtain ⟨p2, n2, c2, rfl, hi2⟩ := hi2.shape; have hpr := Pair.below (by go_split_ands; assumption) hb2; obtain ⟨_, _, q0, q1, q2, q3⟩ := hpr.cells))
  go_wp2
  exact bodyPost_ret (v := .agg #[.bool (decide (sg neg (val W l) < 0)), .slice p2 n2 c2]) (by simp [results, Tryd.results23, go_sem, q0, q1]) rfl
    ⟨_, rfl, hi2.stored hpr _ _ _ _, Below.stored ((((below1 _ _).alloc (by simp) _).drew.trans (hb1.mono (B' := w.heap.size) (by simp; omega))).trans (hb2.mono (B' := w.heap.size) (by omega))) (by omega) _ _⟩
end Go.Proofs.YtippcalhcnjghaaDoor
/- elenchusref01.Whole, Neg. -/
namespace Go.Proofs.YtippcalhcnjghaaDoor
open Go.RowKit Big

theorem sz4 (n : Nat) : sz D n ≤ 4 * sz W n := by
  refine sz_le_of_lt D2 ?_
  have := lt_pow_sz W2 n
  rwa [Nat.pow_mul, show D ^ 4 = W by rfl]

theorem IntAt.whole {w : World} {neg : Bool} {n : Nat} {p : Option Addr} {len c : Nat} (h : At w .u64 (.slice p len c) (dig W n)) :
    IntAt w (.agg #[.bool (neg && decide (0 < len)), .slice p len c]) (sg neg n) := by
  have hl : len = sz W n := by
    obtain ⟨p', c', hv, r⟩ := h
    cases hv; rfl
  refine ⟨_, ?_, by rw [sg_natAbs]; exact h⟩
  by_cases h0 : n = 0
  · subst h0
    rw [sg_zero]
    have : len = 0 := by rw [hl]; rfl
    subst this
    simp
  · rw [sg_neg neg n h0]
    have : 0 < len := by rw [hl]; exact Nat.pos_of_ne_zero fun e => h0 ((sz_eq_zero W2).1 e)
    simp [this]

set_option maxHeartbeats 800000 in
theorem Whole_any (neg : Bool) (v : Value) (l : List Nat) (w : World) (h : At w .u64 v l) (hs : Small W l) (hlen : l.length ≤ 2199023255552) :
    Calls Tryd.prog 24 #[.bool neg, v] w (RInt (sg neg (val W l)) w) := by
  have hd : ∀ o, Calls Tryd.prog 45 #[v] (w.alloc o) (RAt .i64 (dig D (val W l)) (w.alloc o)) := fun o => Digits_any v l _ (h.alloc o) hs hlen
  have hsz : (dig D (val W l)).length ≤ 8796093022208 := by
    have h1 := sz4 (val W l)
    have h2 := sz_val W2 hs
    show sz D (val W l) ≤ _
    omega
  have Hd := hid hd
  have Hsz := hid hsz
  clear hd hsz
  generalize val W l = n at *
  go_enter Tryd.func24, Tryd.ntmps24
  go_wp2_with fail
  refine (Hd.out _).mono ?_
  rintro e w1 ⟨v1, rfl, h1, hb1⟩
  go_wp2_with fail
  refine (From_any v1 _ w1 h1 (small_dig D2 n) Hsz.out).mono ?_
  rintro e w2 ⟨v2, rfl, h2, hb2⟩
  rw [val_dig D2] at h2
  have hpr : Pair w2 w.heap.size 25 := Pair.below (Pair.below (Pair.new ..) hb1) hb2
  obtain ⟨_, _, q0, q1, q2, q3⟩ := hpr.cells
  have z1 : w.heap.size + 1 ≤ w1.heap.size := by have := hb1.size; simp at this; omega
  have bw : Below w.heap.size w w2 := ((below1 _ _).trans (hb1.mono (B' := w.heap.size) (by simp))).trans (hb2.mono (B' := w.heap.size) (by omega))
  obtain ⟨p, c, rfl, -⟩ := id h2
  have hI := IntAt.whole (neg := neg) h2
  have HI := hid hI
  clear hb1 hb2 h1 h2 hI
  generalize (dig W n).length = len at *
  cases neg
  · go_wp2
    exact bodyPost_ret (v := .agg #[.bool false, .slice p len c]) (by simp [results, Tryd.results24, go_sem, q0, q1]) rfl
      ⟨_, rfl, (show IntAt w2 _ _ from HI.out).stored hpr _ _ _ _, Below.stored bw (by omega) _ _⟩
  · by_cases h0 : 0 < len
    · have hx : Hid (decide (0 < len) = true) := by unfold Hid; simpa using h0
      go_wp2
      exact bodyPost_ret (v := .agg #[.bool true, .slice p len c]) (by simp [results, Tryd.results24, go_sem, q0, q1]) rfl
        ⟨_, rfl, (by have := HI.out; rw [hx.out] at this; exact this.stored hpr _ _ _ _), Below.stored bw (by omega) _ _⟩
    · have hx : Hid (decide (0 < len) = false) := by unfold Hid; simpa using h0
      go_wp2
      exact bodyPost_ret (v := .agg #[.bool false, .slice p len c]) (by simp [results, Tryd.results24, go_sem, q0, q1]) rfl
        ⟨_, rfl, (by have := HI.out; rw [hx.out] at this; exact this.stored hpr _ _ _ _), Below.stored bw (by omega) _ _⟩
end Go.Proofs.YtippcalhcnjghaaDoor
/- elenchusref01.less: differences of digits. -/
namespace Go.Proofs.YtippcalhcnjghaaDoor
open Go.RowKit Big

theorem rless_step {L l0 l1 : List Nat} {k x y c s c2 : Nat} {hk : k < l0.length} (hl : L.length = k) (hx : x = l0[k]) (hy : y = l1[k]?.getD 0) (hs : x + D * c2 = s + y + c)
    (hv : val D L + val D (l1.take k) = val D (l0.take k) + c * D ^ k) : val D (L ++ [s]) + val D (l1.take (k + 1)) = val D (l0.take (k + 1)) + c2 * D ^ (k + 1) := by
  rw [val_snoc, val_take_succ D l0 k hk, val_take_getD, hl, ← hx, ← hy, Nat.pow_succ]
  exact sub_step hs hv

set_option maxRecDepth 100000 in
set_option maxHeartbeats 1600000 in
theorem rless_own (v0 v1 : Value) (l0 l1 : List Nat) (w : World) (h0 : At w .i64 v0 l0) (h1 : At w .i64 v1 l1) (s0 : Small D l0) (s1 : Small D l1)
    (hl0 : l0.length ≤ 4398046511104) (hll : l1.length ≤ l0.length) (hvv : val D l1 ≤ val D l0) : Calls Tryd.prog 47 #[v0, v1] w (ROwn 3 .i64 (dig D (val D l0 - val D l1)) w) := by
  have g1 : ∀ (k : Nat) W, Below w.heap.size w W → ∀ n, Calls Tryd.prog 71 #[v1, .int .i64 (k : Nat)] (W.drewN n) fun e w' => e = .returned (.int .i64 (l1[k]?.getD 0 : Nat)) ∧ w' = W.drewN n := fun k W hb n => at_any v1 l1 k _ ((h1.below hb).drewN n)
  have G1 := hid g1
  clear g1
  have Hvv := hid hvv; clear hvv
  obtain ⟨r, hr⟩ : ∃ r, r = dig D (val D l0 - val D l1) := ⟨_, rfl⟩
  rw [← hr]
  have Hr := hid hr; clear hr
  obtain ⟨p0, c0, rfl, a1, a2, a3, a4⟩ := h0
  obtain ⟨p1, c1, rfl, b1, b2, b3, -⟩ := h1
  unfold maxLen at a2 b2
  go_enter Tryd.func47, Tryd.ntmps47
  go_wp2_with fail
  go_loopw [5, 6, 7] (fun o c i wr => ∃ (k : Nat) (L : List Nat) (c' : Nat), k ≤ l0.length ∧ i = .int .i64 (k : Nat) ∧ c = .int .i64 (c' : Nat) ∧ c' ≤ 1 ∧
      Own wr w.heap.size 3 .i64 o L ∧ Hid (L.length = k) ∧ Small D L ∧ Hid (val D L + val D (l1.take k) = val D (l0.take k) + c' * D ^ k) ∧ Below w.heap.size w wr) (fun _ _ i _ => l0.length - (intOf i).toNat)
  case atStart => exact ⟨0, [], 0, Nat.zero_le _, rfl, rfl, by omega, Own.nil _ _ _ _, rfl, small_nil _, by simp [Hid, val], Below.refl _ _⟩
  case round =>
    obtain ⟨k, L, c', hk, rfl, rfl, hc', hown, hLk, hsl, hv, hbel⟩ := hrel
    by_cases hkl : k < l0.length
    · obtain ⟨b, off, rfl, hbb, hcell⟩ := a4 (by omega)
      have e0 : wr.cell? ⟨b, off + k, none⟩ = some (.int .i64 (l0[k] : Nat)) := (hbel.cell (p := ⟨b, off + k, none⟩) hbb).trans (hcell k hkl)
      have x0 := small_get s0 k hkl
      obtain ⟨x, hx⟩ : ∃ x, x = l0[k] := ⟨_, rfl⟩
      rw [← hx] at e0 x0
      obtain ⟨y, hy⟩ : ∃ y, y = l1[k]?.getD 0 := ⟨_, rfl⟩
      have y0 : y < 65536 := by rw [hy]; exact small_getD s1 (by decide) k
      have t1 := G1.out k wr hbel
      rw [← hy] at t1
      have T1 := hid t1
      have Hx := hid hx; have Hy := hid hy
      clear t1 hx hy hcell a4
      unfold D at x0
      have i0 : (0 : Int) ≤ (k : Int) := by omega
      have i1 : (k : Int) < (l0.length : Int) := by omega
      by_cases hneg : x < y + c'
      · go_wp2_with fail
        go_quiet ((go_at_call 71; exact Calls.quiet_of_same (T1.out _)))
        go_wp2_with (at_builtin; refine wpList_append_at rfl _ _ 53 rfl elemInts w.heap.size _ L rfl ((hown.kept (below_drewN (Below.refl _ _) _)).alloc _) _ [x + 65536 - y - c'] rfl (At.oneI _ _ _ _ _ (by omega)) (by rw [hLk.out]; simp [maxLen]; omega) (by rw [hLk.out]; simp; omega) (by have := hbel.size; simp; omega) ?_; intro v2 w2 ho2 hb2 hs2)
        go_roundw
        case rel => exact ⟨k + 1, L ++ [x + 65536 - y - c'], 1, by omega, by go_num, rfl, by omega, ho2, by have := hLk.out; unfold Hid; simp; omega, small_snoc hsl (show _ < 65536 by omega),
          rless_step hLk.out Hx.out Hy.out (show _ + 65536 * _ = _ by omega) hv.out, ((below_drewN hbel _).trans ((below1 _ _).mono (by have := hbel.size; simp; omega))).trans hb2⟩
        case measure => simp [intOf]; omega
      · go_wp2_with fail
        go_quiet ((go_at_call 71; exact Calls.quiet_of_same (T1.out _)))
        go_wp2_with (at_builtin; refine wpList_append_at rfl _ _ 53 rfl elemInts w.heap.size _ L rfl ((hown.kept (below_drewN (Below.refl _ _) _)).alloc _) _ [x - y - c'] rfl (At.oneI _ _ _ _ _ (by omega)) (by rw [hLk.out]; simp [maxLen]; omega) (by rw [hLk.out]; simp; omega) (by have := hbel.size; simp; omega) ?_; intro v2 w2 ho2 hb2 hs2)
        go_roundw
        case rel => exact ⟨k + 1, L ++ [x - y - c'], 0, by omega, by go_num, rfl, by omega, ho2, by have := hLk.out; unfold Hid; simp; omega, small_snoc hsl (show _ < 65536 by omega),
          rless_step hLk.out Hx.out Hy.out (show _ + 65536 * _ = _ by omega) hv.out, ((below_drewN hbel _).trans ((below1 _ _).mono (by have := hbel.size; simp; omega))).trans hb2⟩
        case measure => simp [intOf]; omega
    · obtain rfl : k = l0.length := by omega
      have hv' : val D L + val D l1 = val D l0 + c' * D ^ l0.length := by
        have := hv.out
        rwa [List.take_length, val_take_ge D l1 _ (by omega)] at this
      have hlt := val_lt (by decide : 0 < D) hsl
      have e : strip L = r := by
        rw [strip_dig D2 hsl, Hr.out]
        have := Hvv.out
        rw [hLk.out] at hlt
        have : c' = 0 := by
          rcases (by omega : c' = 0 ∨ c' = 1) with h | h
          · exact h
          · subst h; omega
        subst this
        congr 1; omega
      have He := hid e; clear hv hv' e hlt a4
      have hst := strip_length L
      have ho' := hown
      obtain ⟨po, co, rfl, -⟩ := id hown.at
      go_wp2_with (go_at_call 70; refine (rtrim_val _ L _ hown.at).mono ?_; rintro e w' ⟨rfl, rfl⟩; simp only [cutTo])
      go_ret
      exact ⟨_, rfl, by rw [← He.out]; have := ho'.take (strip L).length hst; rwa [← strip_is_take] at this, hbel⟩
theorem rless_any (v0 v1 : Value) (l0 l1 : List Nat) (w : World) (h0 : At w .i64 v0 l0) (h1 : At w .i64 v1 l1) (s0 : Small D l0) (s1 : Small D l1)
    (hl0 : l0.length ≤ 4398046511104) (hll : l1.length ≤ l0.length) (hvv : val D l1 ≤ val D l0) : Calls Tryd.prog 47 #[v0, v1] w (RAt .i64 (dig D (val D l0 - val D l1)) w) :=
  (rless_own v0 v1 l0 l1 w h0 h1 s0 s1 hl0 hll hvv).mono fun _ _ ⟨v, he, ho, hb⟩ => ⟨v, he, ho.at, hb⟩
end Go.Proofs.YtippcalhcnjghaaDoor
/- elenchusref01.compare, order: the order of sizes. -/
namespace Go.Proofs.YtippcalhcnjghaaDoor
open Go.RowKit Big

theorem ord_partD {l0 l1 : List Nat} {n m : Nat} (s0 : Small D l0) (s1 : Small D l1) (h0 : val D l0 = n) (h1 : val D l1 = m) {k : Nat} (hk0 : k < l0.length) (hk1 : k < l1.length)
    (hd : l0.drop (k + 1) = l1.drop (k + 1)) : (l0[k] < l1[k] → ord n m = -1) ∧ (l1[k] < l0[k] → ord n m = 1) := by
  refine ⟨fun h => ?_, fun h => ?_⟩
  · have := val_lt_of_part s0 hk0 hk1 hd h
    exact ord_lt (by omega)
  · have := val_lt_of_part s1 hk1 hk0 hd.symm h
    exact ord_gt (by omega)

set_option maxRecDepth 100000 in
set_option maxHeartbeats 1600000 in
theorem rcompare_any (v0 v1 : Value) (n m : Nat) (w : World) (h0 : At w .i64 v0 (dig D n)) (h1 : At w .i64 v1 (dig D m)) :
    Calls Tryd.prog 72 #[v0, v1] w (ROrd (ord n m) w) := by
  have s0 := small_dig D2 n
  have s1 := small_dig D2 m
  have k1 : (dig D n).length < (dig D m).length → n < m := lt_of_sz_lt D2
  have k2 : (dig D m).length < (dig D n).length → m < n := lt_of_sz_lt D2
  have hv0 := val_dig D2 n
  have hv1 := val_dig D2 m
  generalize dig D n = l0 at *
  generalize dig D m = l1 at *
  have Hv0 := hid hv0; clear hv0
  have Hv1 := hid hv1; clear hv1
  obtain ⟨p0, c0, rfl, a1, a2, a3, a4⟩ := h0
  obtain ⟨p1, c1, rfl, b1, b2, b3, b4⟩ := h1
  unfold maxLen at a2 b2
  by_cases hl : l0.length = l1.length
  · have Hl := hid hl
    rw [hl] at a1 ⊢; clear hl
    go_enter Tryd.func72, Tryd.ntmps72
    go_wp2_with fail
    go_loopw [5] (fun i wr => ∃ (k : Nat), k ≤ l1.length ∧ i = .int .i64 ((k : Int) - 1) ∧ Hid (l0.drop k = l1.drop k) ∧ Hid (∃ j, wr = w.drewN j)) (fun i _ => (intOf i + 1).toNat)
    case atStart => exact ⟨l1.length, Nat.le_refl _, rfl, by unfold Hid; rw [List.drop_length, ← Hl.out, List.drop_length], 0, rfl⟩
    case round =>
      obtain ⟨k, hk, rfl, hd, Hw⟩ := hrel
      by_cases hk0 : 0 < k
      · obtain ⟨k, rfl⟩ : ∃ k', k = k' + 1 := ⟨k - 1, by omega⟩
        have hkl : k < l0.length := by rw [Hl.out]; omega
        obtain ⟨b, off, rfl, hbb, hc0⟩ := a4 (Nat.lt_of_le_of_lt (Nat.zero_le _) hkl)
        obtain ⟨b', off', rfl, hbb', hc1⟩ := b4 (by omega)
        have e0 : wr.cell? ⟨b, off + k, none⟩ = some (.int .i64 (l0[k] : Nat)) := by obtain ⟨j, rfl⟩ := Hw.out; exact hc0 k hkl
        have e1 : wr.cell? ⟨b', off' + k, none⟩ = some (.int .i64 (l1[k] : Nat)) := by obtain ⟨j, rfl⟩ := Hw.out; exact hc1 k (by omega)
        have ep := ord_partD s0 s1 Hv0.out Hv1.out hkl (show k < l1.length by omega) hd.out
        have es : l0[k] = l1[k] → l0.drop k = l1.drop k := fun h => by
          rw [List.drop_eq_getElem_cons hkl, List.drop_eq_getElem_cons (show k < l1.length by omega), h, hd.out]
        generalize l0[k] = x at *
        generalize l1[k] = y at *
        have Ep : Hid ((x < y → ord n m = -1) ∧ (y < x → ord n m = 1)) := ep
        have Es : Hid (x = y → l0.drop k = l1.drop k) := es
        clear a4 b4 hc0 hc1 ep es hbb hbb' s0 s1 k1 k2
        have hlow : (0 : Int) ≤ (k : Int) + 1 - 1 := by omega
        rcases Nat.lt_trichotomy x y with hxy | hxy | hxy
        · have Hr : Hid (ord n m = -1) := Ep.out.1 hxy
          clear Ep Es
          go_wp2
          go_quiet (fail)
          go_wp2
          go_ret
          exact ⟨by rw [Hr.out]; rfl, drawn_more Hw.out⟩
        · subst hxy
          go_wp2
          go_quiet (fail)
          go_wp2
          go_quiet (fail)
          go_wp2
          go_roundw
          case rel => exact ⟨k, by omega, rfl, Es.out (by trivial), by first | exact drawn_more Hw.out | exact drawn_more (drawn_more Hw.out)⟩
          case measure => simp [intOf]
        · have Hr : Hid (ord n m = 1) := Ep.out.2 hxy
          clear Ep Es
          go_wp2
          go_quiet (fail)
          go_wp2
          go_quiet (fail)
          go_wp2
          go_ret
          exact ⟨by rw [Hr.out]; rfl, drawn_more (drawn_more Hw.out)⟩
      · obtain rfl : k = 0 := by omega
        have hn : ord n m = 0 := by
          have h := hd.out
          rw [List.drop_zero, List.drop_zero] at h
          rw [← Hv0.out, ← Hv1.out, h]; exact ord_eq _
        have Hn := hid hn
        clear hn a4 b4 k1 k2 hd
        go_wp2
        go_ret
        exact ⟨by rw [Hn.out]; rfl, Hw.out⟩
  · have hb : ((l0.length : Int) != (l1.length : Int)) = true := bne_iff_ne.2 (by omega)
    rcases Nat.lt_or_ge l0.length l1.length with h | h
    · have Hn : Hid (ord n m = -1) := ord_lt (by have := k1 h; omega)
      clear a4 b4 k1 k2
      go_enter Tryd.func72, Tryd.ntmps72
      go_wp2
      go_ret
      exact ⟨by rw [Hn.out]; rfl, 0, rfl⟩
    · have h' : ¬ l0.length < l1.length := by omega
      have Hn : Hid (ord n m = 1) := ord_gt (by have := k2 (by omega); omega)
      clear a4 b4 k1 k2
      go_enter Tryd.func72, Tryd.ntmps72
      go_wp2
      go_ret
      exact ⟨by rw [Hn.out]; rfl, 0, rfl⟩

/-- elenchusref01.order -/
theorem order_any (v0 v1 : Value) (l0 l1 : List Nat) (w : World) (h0 : At w .u64 v0 l0) (h1 : At w .u64 v1 l1) (s0 : Small W l0) (s1 : Small W l1) (c0 : l0.length ≤ 1099511627776) (c1 : l1.length ≤ 1099511627776) :
    Calls Tryd.prog 46 #[v0, v1] w (RNum .i64 (ord (val W l0) (val W l1)) w) := by
  have g0 := Digits_any v0 l0 w h0 s0 (by omega)
  have g1 : ∀ W', Below w.heap.size w W' → Calls Tryd.prog 45 #[v1] W' (RAt .i64 (dig D (val W l1)) W') := fun W' hb => Digits_any v1 l1 W' (h1.below hb) s1 (by omega)
  have G0 := hid g0; have G1 := hid g1
  obtain ⟨r, hr⟩ : ∃ r, r = ord (val W l0) (val W l1) := ⟨_, rfl⟩
  rw [← hr]
  have Hr := hid hr
  clear hr g0 g1
  go_enter Tryd.func46, Tryd.ntmps46
  go_wp2_with fail
  refine G0.out.mono ?_
  rintro e w1 ⟨v2, rfl, ha2, hb1⟩
  go_wp2_with fail
  refine (G1.out _ hb1).mono ?_
  rintro e w2 ⟨v3, rfl, ha3, hb2⟩
  have ha2' := ha2.below hb2
  go_wp2_with fail
  refine (rcompare_any v2 v3 _ _ w2 ha2' ha3).mono ?_
  rintro e w3 ⟨rfl, k, rfl⟩
  go_wp2_with fail
  go_ret
  exact ⟨by rw [Hr.out]; rfl, below_drewN (hb1.trans (hb2.mono hb1.size)) _⟩
end Go.Proofs.YtippcalhcnjghaaDoor
/- elenchusref01's digit functions, said of numbers. -/
namespace Go.Proofs.YtippcalhcnjghaaDoor
open Go.RowKit Big
theorem rplusN_any (v0 v1 : Value) (x y : Nat) (w : World) (h0 : At w .i64 v0 (dig D x)) (h1 : At w .i64 v1 (dig D y)) (k0 : sz D x ≤ 4398046511104) (k1 : sz D y ≤ 4398046511104) :
    Calls Tryd.prog 44 #[v0, v1] w (RAt .i64 (dig D (x + y)) w) := by
  have := rplus_any v0 v1 _ _ w h0 h1 (small_dig D2 _) (small_dig D2 _) k0 k1
  rwa [val_dig D2, val_dig D2] at this
theorem rlessN_any (v0 v1 : Value) (x y : Nat) (w : World) (h0 : At w .i64 v0 (dig D x)) (h1 : At w .i64 v1 (dig D y)) (k0 : sz D x ≤ 4398046511104) (hyx : y ≤ x) :
    Calls Tryd.prog 47 #[v0, v1] w (RAt .i64 (dig D (x - y)) w) := by
  have := rless_any v0 v1 _ _ w h0 h1 (small_dig D2 _) (small_dig D2 _) k0 (sz_mono D2 hyx) (by rw [val_dig D2, val_dig D2]; exact hyx)
  rwa [val_dig D2, val_dig D2] at this
theorem FromN_any (v : Value) (x : Nat) (w : World) (h : At w .i64 v (dig D x)) (k : sz D x ≤ 8796093022208) :
    Calls Tryd.prog 43 #[v] w (RAt .u64 (dig W x) w) := by
  have := From_any v _ w h (small_dig D2 _) k
  rwa [val_dig D2] at this
theorem WholeN_any (neg : Bool) (v : Value) (x : Nat) (w : World) (h : At w .u64 v (dig W x)) (k : sz W x ≤ 2199023255552) :
    Calls Tryd.prog 24 #[.bool neg, v] w (RInt (sg neg x) w) := by
  have := Whole_any neg v _ w h (small_dig W2 _) k
  rwa [val_dig W2] at this
end Go.Proofs.YtippcalhcnjghaaDoor
/- whole.Neg, Sign, Cmp, Add, Sub. -/
namespace Go.Proofs.YtippcalhcnjghaaDoor
open Go.RowKit Big

set_option maxHeartbeats 800000 in
theorem Neg_any (v : Value) (z : Int) (w : World) (h : RawAt w v z) : Calls Tryd.prog 21 #[v] w (RInt (-z) w) := by
  obtain ⟨neg, s, l, rfl, ha, hs, hl, rfl⟩ := h
  have Hs := hid (strip_dig W2 hs)
  have Hz : Hid (-sg neg (val W l) = sg (!neg) (val W l)) := by unfold Hid sg; cases neg <;> simp
  obtain ⟨z, hz⟩ : ∃ z, z = -sg neg (val W l) := ⟨_, rfl⟩
  rw [← hz]
  rw [← hz] at Hz
  clear hz
  go_enter Tryd.func21, Tryd.ntmps21
  go_wp2_with fail
  go_region_held3 (fun w' => w'.cell? ⟨w.heap.size, 0, none⟩ = some (.bool neg) ∧ w'.cell? ⟨w.heap.size, 1, none⟩ = some s ∧ Pair w' (w.heap.size + 1) 25)
    (first | (go_split_ands; (try dsimp only); (repeat' apply And.intro) <;> first | assumption | exact Pair.drew ‹_› | exact Pair.below ‹_› hb9 | exact Pair.below ‹_› hb8 | exact Pair.below ‹_› hb7 | exact Pair.below ‹_› hb6 | exact Pair.below ‹_› hb5 | exact Pair.below ‹_› hb4 | exact Pair.below ‹_› hb3 | exact Pair.below ‹_› hb2 | exact Pair.below ‹_› hb1 | exact (hb9.cell (by first | omega | (simp; omega) | (simp; done))).trans ‹_› | exact (hb8.cell (by first | omega | (simp; omega) | (simp; done))).trans ‹_› | exact (hb7.cell (by first | omega | (simp; omega) | (simp; done))).trans ‹_› | exact (hb6.cell (by first | omega | (simp; omega) | (simp; done))).trans ‹_› | exact (hb5.cell (by first | omega | (simp; omega) | (simp; done))).trans ‹_› | exact (hb4.cell (by first | omega | (simp; omega) | (simp; done))).trans ‹_› | exact (hb3.cell (by first | omega | (simp; omega) | (simp; done))).trans ‹_› | exact (hb2.cell (by first | omega | (simp; omega) | (simp; done))).trans ‹_› | exact (hb1.cell (by first | omega | (simp; omega) | (simp; done))).trans ‹_› | exact Pair.set1 (Pair.set0 ‹_› _) _ _ _ | exact (cell_stored _ (by first | (dsimp only; omega) | (simp; done) | (simp; omega)) _ _).trans ‹_› | exact Pair.drew (Pair.below ‹_› (below1 _ _)) | exact Pair.below ‹_› (below1 _ _) | exact Pair.far ‹_› (by omega) hb1 | exact Pair.new .. | exact Pair.new1 .. | exact Pair.new2 .. | (go_keep; done)) | (go_keep; done))
    (first
      | (go_at_call 49; refine (own_any s l _ ?_ hl).mono ?_; (repeat (first | exact ha | apply At.drew | apply At.alloc)); rintro e w1 ⟨v1, rfl, ho1, hb1⟩; have hz1 : w.heap.size + 2 ≤ w1.heap.size := (by have := hb1.size; simp at this; omega))
      | (go_at_call 39; refine (told_any (!neg) _ _ _ (by rw [← Hs.out]; exact ho1.at)).mono ?_; rintro e w2 ⟨v2, rfl, hi2, hb2⟩; obtain ⟨p2, n2, c2, rfl, hi2⟩ := hi2.shape; have hpr := Pair.below (by go_split_ands; assumption) hb2; obtain ⟨_, _, q0, q1, q2, q3⟩ := hpr.cells))
  go_wp2
  exact bodyPost_ret (v := .agg #[.bool (decide (sg (!neg) (val W l) < 0)), .slice p2 n2 c2]) (by simp [results, Tryd.results21, go_sem, q0, q1]) rfl
    ⟨_, rfl, by rw [Hz.out]; exact hi2.stored hpr _ _ _ _, Below.stored ((((below1 _ _).alloc (by simp) _).drew.trans (hb1.mono (B' := w.heap.size) (by simp; omega))).trans (hb2.mono (B' := w.heap.size) (by omega))) (by omega) _ _⟩

theorem sign_sg (neg : Bool) (n : Nat) : (sg neg n).sign = if n = 0 then 0 else if neg then -1 else 1 := by
  unfold sg
  by_cases h : n = 0
  · subst h; cases neg <;> simp
  · rw [if_neg h]
    cases neg
    · simp only [Bool.false_eq_true, if_false]; exact Int.sign_eq_one_of_pos (by omega)
    · simp only [if_true]; exact Int.sign_eq_neg_one_of_neg (by omega)

set_option maxHeartbeats 800000 in
theorem Sign_any (v : Value) (z : Int) (w : World) (h : RawAt w v z) : Calls Tryd.prog 19 #[v] w (fun e w' => e = .returned (.int .i64 z.sign) ∧ Below w.heap.size w w') := by
  obtain ⟨neg, s, l, rfl, ha, hs, hl, rfl⟩ := h
  have Hs := hid (strip_dig W2 hs)
  have Hz := hid (sign_sg neg (val W l))
  have ht : ∀ o, Calls Tryd.prog 38 #[s] (w.alloc o) (fun e w' => e = .returned (cutTo s (strip l).length) ∧ w' = w.alloc o) := fun o => trim_val s l _ (ha.alloc o)
  have Ht := hid ht; clear ht
  obtain ⟨p, c, rfl, -⟩ := ha
  obtain ⟨n, hn⟩ : ∃ n, n = val W l := ⟨_, rfl⟩
  obtain ⟨m, hm⟩ : ∃ m, m = (strip l).length := ⟨_, rfl⟩
  have hmn : m = 0 ↔ n = 0 := by rw [hm, Hs.out, ← hn]; exact sz_eq_zero W2
  rw [← hn] at Hz ⊢
  rw [← hm] at Ht
  clear hm hn
  obtain ⟨z, hz⟩ : ∃ z, z = (sg neg n).sign := ⟨_, rfl⟩
  rw [← hz] at Hz ⊢
  clear hz
  by_cases h0 : m = 0
  · have hz : z = 0 := by rw [Hz.out, if_pos (hmn.1 h0)]
    subst hz
    subst h0
    go_enter Tryd.func19, Tryd.ntmps19
    go_wp2_with (go_at_call 38; refine (Ht.out _).mono ?_; rintro e w' ⟨rfl, rfl⟩; simp only [cutTo])
    go_ret
    exact ⟨rfl, below1 _ _⟩
  · have hz : z = if neg then -1 else 1 := by rw [Hz.out, if_neg (fun e => h0 (hmn.2 e))]
    have hb : ((m : Int) == 0) = false := beq_eq_false_iff_ne.2 (by omega)
    cases neg
    · simp only [Bool.false_eq_true, if_false] at hz
      subst hz
      go_enter Tryd.func19, Tryd.ntmps19
      go_wp2_with (go_at_call 38; refine (Ht.out _).mono ?_; rintro e w' ⟨rfl, rfl⟩; simp only [cutTo])
      go_ret
      exact ⟨rfl, below1 _ _⟩
    · simp only [if_true] at hz
      subst hz
      go_enter Tryd.func19, Tryd.ntmps19
      go_wp2_with (go_at_call 38; refine (Ht.out _).mono ?_; rintro e w' ⟨rfl, rfl⟩; simp only [cutTo])
      go_ret
      exact ⟨rfl, below1 _ _⟩

end Go.Proofs.YtippcalhcnjghaaDoor
/- whole.Cmp. -/
namespace Go.Proofs.YtippcalhcnjghaaDoor
open Go.RowKit Big

theorem ord_signs {a b : Int} (h : a.sign ≠ b.sign) : ord a.sign b.sign = ord a b := by
  rcases Int.lt_trichotomy a 0 with h1 | h1 | h1 <;> rcases Int.lt_trichotomy b 0 with h2 | h2 | h2
  all_goals (try subst h1); (try subst h2)
  all_goals (try simp only [Int.sign_eq_neg_one_of_neg, Int.sign_eq_one_of_pos, Int.sign_zero, *] at h ⊢)
  all_goals first | exact absurd rfl h | (unfold ord; (repeat' split) <;> omega)
theorem ord_sizes {a b : Int} (h : a.sign = b.sign) : a.sign * ord a.natAbs b.natAbs = ord a b := by
  rcases Int.lt_trichotomy a 0 with h1 | h1 | h1 <;> rcases Int.lt_trichotomy b 0 with h2 | h2 | h2
  all_goals (try subst h1); (try subst h2)
  all_goals (try simp only [Int.sign_eq_neg_one_of_neg, Int.sign_eq_one_of_pos, Int.sign_zero, *] at h ⊢)
  all_goals first | (exfalso; revert h; decide) | (unfold ord; (repeat' split) <;> omega)
theorem sign_bounds (a : Int) : -1 ≤ a.sign ∧ a.sign ≤ 1 := by
  rcases Int.lt_trichotomy a 0 with h | h | h
  · rw [Int.sign_eq_neg_one_of_neg h]; omega
  · subst h; simp
  · rw [Int.sign_eq_one_of_pos h]; omega
theorem ord_bounds (a b : Int) : -1 ≤ ord a b ∧ ord a b ≤ 1 := by unfold ord; (repeat' split) <;> omega
theorem quiet_add {P : Program} {f : FuncId} {args : Array Value} {w : World} {n : Nat} {v : Value}
    (h : Calls P f args (w.drewN n) fun e w' => e = .returned v ∧ ∃ m, w' = (w.drewN n).drewN m) :
    Calls P f args (w.drewN n) fun e w'' => e = .returned v ∧ ∃ m, w'' = w.drewN m :=
  h.mono fun _ _ ⟨he, m, hm⟩ => ⟨he, n + m, by rw [hm, World.drewN_drewN]⟩

set_option maxHeartbeats 1600000 in
theorem Cmp_any (v0 v1 : Value) (a b : Int) (w : World) (h0 : RawAt w v0 a) (h1 : RawAt w v1 b) : Calls Tryd.prog 17 #[v0, v1] w (RNum .i64 (ord a b) w) := by
  have hne := @ord_signs a b
  have heq := @ord_sizes a b
  have ba := sign_bounds a
  have bb := sign_bounds b
  have g0 : ∀ W, RawAt W v0 a → Calls Tryd.prog 19 #[v0] W (fun e w' => e = .returned (.int .i64 a.sign) ∧ Below W.heap.size W w') := fun W h => Sign_any v0 a W h
  have g1 : ∀ W, RawAt W v1 b → Calls Tryd.prog 19 #[v1] W (fun e w' => e = .returned (.int .i64 b.sign) ∧ Below W.heap.size W w') := fun W h => Sign_any v1 b W h
  have Hne := hid hne; have Heq := hid heq; have G0 := hid g0; have G1 := hid g1
  clear hne heq g0 g1
  obtain ⟨r, hr⟩ : ∃ r, r = ord a b := ⟨_, rfl⟩
  obtain ⟨n0, s0, l0, rfl, a0, b0, c0, ha⟩ := id h0
  obtain ⟨n1, s1, l1, rfl, a1, b1, c1, hb⟩ := id h1
  have na : a.natAbs = val W l0 := by rw [ha, sg_natAbs]
  have nb : b.natAbs = val W l1 := by rw [hb, sg_natAbs]
  rw [← hr] at Hne Heq ⊢
  rw [na, nb] at Heq
  clear hr ha hb na nb
  generalize a.sign = x at *
  generalize b.sign = y at *
  have d0 := hid (strip_dig W2 b0)
  have d1 := hid (strip_dig W2 b1)
  obtain ⟨ba1, ba2⟩ := ba
  obtain ⟨bb1, bb2⟩ := bb
  go_enter Tryd.func17, Tryd.ntmps17
  go_wp2_with fail
  refine (G0.out _ (h0.below ((below1 _ _).alloc (by simp) _))).mono ?_
  rintro e w1 ⟨rfl, hb1⟩
  have W1 := (Two.new w _ _ _ _ _).below hb1
  obtain ⟨c00, c01, c10, c11, z1⟩ := id W1
  have bw : Below w.heap.size w w1 := ((below1 _ _).alloc (by simp) _).trans (hb1.mono (B' := w.heap.size) (by simp; omega))
  go_wp2_with fail
  refine (G1.out _ (h1.below bw)).mono ?_
  rintro e w2 ⟨rfl, hb2⟩
  obtain ⟨e00, e01, e10, e11, z2⟩ := W1.below hb2
  have bw2 : Below w.heap.size w w2 := bw.trans (hb2.mono (B' := w.heap.size) (by omega))
  clear c00 c01 c10 c11 hb1 bw hb2 z1 z2 G0 G1 W1
  have t0 : ∀ n, Calls Tryd.prog 38 #[s0] (w2.drewN n) (fun e w' => e = .returned (cutTo s0 (strip l0).length) ∧ w' = w2.drewN n) := fun n => trim_val s0 l0 _ ((a0.below bw2).drewN n)
  have t1 : ∀ n, Calls Tryd.prog 38 #[s1] (w2.drewN n) (fun e w' => e = .returned (cutTo s1 (strip l1).length) ∧ w' = w2.drewN n) := fun n => trim_val s1 l1 _ ((a1.below bw2).drewN n)
  have t2 : ∀ n, Calls Tryd.prog 41 #[cutTo s0 (strip l0).length, cutTo s1 (strip l1).length] (w2.drewN n) (ROrd (ord (val W l0) (val W l1)) (w2.drewN n)) := fun n =>
    compare_any _ _ _ _ _ (by have := ((a0.below bw2).drewN n).strip; rwa [d0.out] at this ⊢) (by have := ((a1.below bw2).drewN n).strip; rwa [d1.out] at this ⊢)
  have ob := ord_bounds (val W l0) (val W l1)
  have T0 := hid t0; have T1 := hid t1; have T2 := hid t2
  clear t0 t1 t2
  obtain ⟨o, ho⟩ : ∃ o, o = ord (val W l0) (val W l1) := ⟨_, rfl⟩
  rw [← ho] at Heq T2 ob
  clear ho
  obtain ⟨ob1, ob2⟩ := ob
  by_cases hxy : x = y
  · subst hxy
    have Hr : Hid (x * o = r) := Heq.out rfl
    clear Hne Heq
    rcases (by omega : x = -1 ∨ x = 0 ∨ x = 1) with rfl | rfl | rfl
    all_goals
      go_wp2_with fail
      go_quiet ((first
        | (go_at_call_of 38 (s0); exact Calls.quiet_of_same (T0.out _))
        | (go_at_call_of 38 (s1); exact Calls.quiet_of_same (T1.out _))
        | (go_at_call 41; exact quiet_add (T2.out _))))
      go_wp2
      go_ret
      exact ⟨by rw [← Hr.out]; simp, below_drewN bw2 _⟩
  · have hb : (x != y) = true := bne_iff_ne.2 hxy
    have Hr : Hid (ord x y = r) := Hne.out hxy
    go_wp2_with (go_at_call 48; refine (cmpInt_any _ _ _).mono ?_; rintro e w' ⟨rfl, rfl⟩)
    go_ret
    exact ⟨by rw [← Hr.out]; rfl, bw2⟩
end Go.Proofs.YtippcalhcnjghaaDoor
