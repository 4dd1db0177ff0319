/- elenchusref01.plus: sums of digits. -/
import Derived.Test.YtlicmnlllappnaaDoorDigits
namespace Go.Proofs.YtlicmnlllappnaaDoor
open Go.RowKit Big

theorem rplus_step {L l0 l1 : List Nat} {k x y c : Nat} (hl : L.length = k) (hx : x = l0[k]?.getD 0) (hy : y = l1[k]?.getD 0)
    (hv : val D L + c * D ^ k = val D (l0.take k) + val D (l1.take k)) : val D (L ++ [(c + x + y) % 65536]) + (c + x + y) / 65536 * D ^ (k + 1) = val D (l0.take (k + 1)) + val D (l1.take (k + 1)) := by
  rw [val_snoc, val_take_getD, val_take_getD, hl, ← hx, ← hy, Nat.pow_succ]
  exact add_step (by unfold D; omega : x + y + c = (c + x + y) % 65536 + D * ((c + x + y) / 65536)) hv

set_option maxRecDepth 100000 in
set_option maxHeartbeats 1600000 in
theorem rplus_any (v0 v1 : Value) (l0 l1 : List Nat) (w : World) (h0 : At w .i64 v0 l0) (h1 : At w .i64 v1 l1) (s0 : Small D l0) (s1 : Small D l1)
    (hl0 : l0.length ≤ 4398046511104) (hl1 : l1.length ≤ 4398046511104) : Calls Tryd.prog 44 #[v0, v1] w (RAt .i64 (dig D (val D l0 + val D l1)) w) := by
  have g0 : ∀ (k : Nat) W, Below w.heap.size w W → Calls Tryd.prog 71 #[v0, .int .i64 (k : Nat)] W fun e w' => e = .returned (.int .i64 (l0[k]?.getD 0 : Nat)) ∧ w' = W := fun k W hb => at_any v0 l0 k W (h0.below hb)
  have g1 : ∀ (k : Nat) W, Below w.heap.size w W → Calls Tryd.prog 71 #[v1, .int .i64 (k : Nat)] W fun e w' => e = .returned (.int .i64 (l1[k]?.getD 0 : Nat)) ∧ w' = W := fun k W hb => at_any v1 l1 k W (h1.below hb)
  have G0 := hid g0; have G1 := hid g1
  clear g0 g1
  obtain ⟨p0, c0, rfl, a1, a2, a3, -⟩ := h0
  obtain ⟨p1, c1, rfl, b1, b2, b3, -⟩ := h1
  unfold maxLen at a2 b2
  go_enter Tryd.func44, Tryd.ntmps44
  go_wp2_with fail
  go_loopw [5, 6, 7] (fun o c i wr => ∃ (k : Nat) (L : List Nat) (c' : Nat), (k ≤ l0.length ∨ k ≤ l1.length ∨ k ≤ l0.length + 1 ∧ k ≤ l1.length + 1 + l0.length ∧ c' = 0 ∨ (k = l1.length + 1 ∧ c' = 0)) ∧ i = .int .i64 (k : Nat) ∧ c = .int .i64 (c' : Nat) ∧ c' ≤ 1 ∧
      Own wr w.heap.size 3 .i64 o L ∧ Hid (L.length = k) ∧ Small D L ∧ Hid (val D L + c' * D ^ k = val D (l0.take k) + val D (l1.take k)) ∧ Below w.heap.size w wr) (fun _ _ i _ => l0.length + l1.length + 2 - (intOf i).toNat)
  case atStart => exact ⟨0, [], 0, Or.inl (Nat.zero_le _), rfl, rfl, by omega, Own.nil _ _ _ _, rfl, small_nil _, by simp [Hid, val], Below.refl _ _⟩
  case round =>
    obtain ⟨k, L, c', hk, rfl, rfl, hc', hown, hLk, hsl, hv, hbel⟩ := hrel
    obtain ⟨x, hx⟩ : ∃ x, x = l0[k]?.getD 0 := ⟨_, rfl⟩
    obtain ⟨y, hy⟩ : ∃ y, y = l1[k]?.getD 0 := ⟨_, rfl⟩
    have x0 : x < 65536 := by rw [hx]; exact small_getD s0 (by decide) k
    have y0 : y < 65536 := by rw [hy]; exact small_getD s1 (by decide) k
    have t0 := G0.out k wr hbel
    have t1 := G1.out k wr hbel
    rw [← hx] at t0
    rw [← hy] at t1
    have hx0 : l0.length ≤ k → x = 0 := fun h => by rw [hx, List.getElem?_eq_none h]; rfl
    have hy0 : l1.length ≤ k → y = 0 := fun h => by rw [hy, List.getElem?_eq_none h]; rfl
    have T0 := hid t0; have T1 := hid t1
    have Hx := hid hx; have Hy := hid hy
    clear t0 t1 hx hy
    have hk2 : k ≤ l0.length + l1.length + 1 := by omega
    by_cases hgo : k < l0.length ∨ k < l1.length ∨ 0 < c'
    · have hn : (k + 1 ≤ l0.length ∨ k + 1 ≤ l1.length ∨ k + 1 ≤ l0.length + 1 ∧ k + 1 ≤ l1.length + 1 + l0.length ∧ (c' + x + y) / 65536 = 0 ∨ (k + 1 = l1.length + 1 ∧ (c' + x + y) / 65536 = 0)) := by omega
      have Hn := hid hn
      clear hn hk hx0 hy0
      rcases (by omega : k < l0.length ∨ (¬ k < l0.length ∧ k < l1.length) ∨ (¬ k < l0.length ∧ ¬ k < l1.length ∧ 0 < c')) with h | ⟨h, h'⟩ | ⟨h, h', h''⟩
      all_goals
        go_wp2_with fail
        refine T0.out.mono ?_
        rintro e w' ⟨rfl, rfl⟩
        go_wp2_with fail
        refine T1.out.mono ?_
        rintro e w' ⟨rfl, rfl⟩
        go_wp2_with (at_builtin; refine wpList_append_at rfl _ _ 53 rfl elemInts w.heap.size _ L rfl (hown.alloc _) _ [(c' + x + y) % 65536] rfl (At.oneI _ _ _ _ _ (by omega)) (by rw [hLk.out]; simp [maxLen]; omega) (by rw [hLk.out]; simp; omega) (by have := hbel.size; simp; omega) ?_; intro v2 w2 ho2 hb2 hs2)
        go_roundw
        case rel => exact ⟨k + 1, L ++ [(c' + x + y) % 65536], (c' + x + y) / 65536, Hn.out, by go_num, by go_num, by omega, ho2, by have := hLk.out; unfold Hid; simp; omega, small_snoc hsl (Nat.mod_lt _ (by decide)),
          rplus_step hLk.out Hx.out Hy.out hv.out, (hbel.trans ((below1 _ _).mono hbel.size)).trans hb2⟩
        case measure => simp [intOf]; omega
    · have hc0 : c' = 0 := by omega
      subst hc0
      have h : ¬ k < l0.length := by omega
      have h' : ¬ k < l1.length := by omega
      have hv' : Hid (strip L = dig D (val D l0 + val D l1)) := by
        have := hv.out
        rw [val_take_ge _ _ _ (by omega), val_take_ge _ _ _ (by omega), Nat.zero_mul, Nat.add_zero] at this
        unfold Hid
        rw [← this, strip_dig D2 hsl]
      clear hgo hk hx0 hy0
      go_wp2_with (go_at_call 70; refine (rtrim_any _ L _ hown.at).mono ?_; rintro e w' ⟨v', rfl, hv'', rfl⟩)
      go_ret
      exact ⟨_, rfl, by rw [← hv'.out]; exact hv'', hbel⟩
end Go.Proofs.YtlicmnlllappnaaDoor
