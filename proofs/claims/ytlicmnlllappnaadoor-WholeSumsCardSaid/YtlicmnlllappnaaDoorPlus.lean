/- whole.own, whole.plus: sums of words with carries. -/
import Derived.Test.YtlicmnlllappnaaDoorSmallFns
import Derived.Test.YtlicmnlllappnaaDoorOwn
import Derived.Shelf.Spec.BitsCarry
namespace Go.Proofs.YtlicmnlllappnaaDoor
open Go.RowKit Big

set_option maxHeartbeats 400000 in
theorem own_any (v : Value) (l : List Nat) (w : World) (h : At w .u64 v l) (hl : l.length ≤ 1099511627776) :
    Calls Tryd.prog 49 #[v] w (ROwn 59 .u64 (strip l) w) := by
  have hs := strip_length l
  go_enter Tryd.func49, Tryd.ntmps49
  go_wp2_with (first
    | (go_at_call 38; refine (trim_any _ l _ h).mono ?_; rintro e w' ⟨v', rfl, hv', rfl⟩)
    | (at_builtin; refine wpList_append_at rfl _ _ 23 rfl elemNat w.heap.size _ [] rfl (Own.nil _ _ _ _) _ (strip l) rfl hv' (by simp [maxLen]; omega) (by simp; omega) (Nat.le_refl _) ?_; intro v2 w2 ho hb _))
  go_ret
  exact ⟨_, rfl, by simpa using ho, hb⟩

/-- math/bits.Add64, its sum and carry under names -/
theorem add64 (x y c : Nat) (hc : c ≤ 1) : ∃ s c', x + y + c = s + W * c' ∧ s < W ∧ (x < W → y < W → c' ≤ 1) ∧
    ∀ w, (callFunc 67 #[.int .u64 (x : Nat), .int .u64 (y : Nat), .int .u64 (c : Nat)]).run Tryd.prog w = .ok (.value (.tuple #[.int .u64 (s : Nat), .int .u64 (c' : Nat)])) w := by
  refine ⟨(x + y + c) % W, (x + y + c) / W, (Nat.mod_add_div _ _).symm, Nat.mod_lt _ (by decide), ?_, fun w => ?_⟩
  · intro h1 h2
    have : (x + y + c) / W < 2 := (Nat.div_lt_iff_lt_mul (by decide)).2 (by omega)
    omega
  · rw [run_callFunc_extern Tryd.func67 (by kernel_rfl) (by kernel_rfl) (by kernel_rfl) (e := add64Entry) (by kernel_rfl), run_add64 x y c (by omega) (by omega) (by omega) (by omega)]
    simp only [Result.andThen, W]
    congr 5 <;> omega
/-- math/bits.Sub64, likewise -/
theorem sub64 (x y b : Nat) (hx : x < W) (hy : y < W) (hb : b ≤ 1) : ∃ s b', x + W * b' = s + y + b ∧ s < W ∧ b' ≤ 1 ∧
    ∀ w, (callFunc 69 #[.int .u64 (x : Nat), .int .u64 (y : Nat), .int .u64 (b : Nat)]).run Tryd.prog w = .ok (.value (.tuple #[.int .u64 (s : Nat), .int .u64 (b' : Nat)])) w := by
  unfold W at *
  refine ⟨(x + 18446744073709551616 - y - b) % 18446744073709551616, if x < y + b then 1 else 0, ?_, Nat.mod_lt _ (by decide), ?_, fun w => ?_⟩
  · split <;> omega
  · split <;> omega
  · rw [run_callFunc_extern Tryd.func69 (by kernel_rfl) (by kernel_rfl) (by kernel_rfl) (e := sub64Entry) (by kernel_rfl), run_sub64 x y b hb]
    rfl

def RPlus (l0 l1 : List Nat) (w : World) (e : Ending) (w' : World) : Prop := ∃ l c, Small W l ∧ l.length = l0.length ∧ c ≤ 1 ∧ val W l + c * W ^ l0.length = val W l0 + val W l1 ∧
      ROwn 59 .u64 (if c = 0 then l else l ++ [c]) w e w'
theorem plus_step {l l0 l1 : List Nat} {k x y c s c2 : Nat} {hk : k < l0.length} (hl : l.length = k) (hx : x = l0[k]) (hy : y = l1[k]?.getD 0) (hs : x + y + c = s + W * c2)
    (hv : val W l + c * W ^ k = val W (l0.take k) + val W (l1.take k)) : val W (l ++ [s]) + c2 * W ^ (k + 1) = val W (l0.take (k + 1)) + val W (l1.take (k + 1)) := by
  rw [val_snoc, val_take_succ W l0 k hk, val_take_getD, hl, ← hx, ← hy, Nat.pow_succ]
  exact add_step hs hv

set_option maxRecDepth 100000 in
set_option maxHeartbeats 800000 in
theorem plus_at (sw : Bool) (v0 v1 : Value) (l0 l1 : List Nat) (w : World) (h0 : At w .u64 v0 l0) (h1 : At w .u64 v1 l1) (s0 : Small W l0) (s1 : Small W l1)
    (hl : if sw then l1.length < l0.length else l1.length ≤ l0.length) (hlen : l0.length ≤ 1099511627776) :
    Calls Tryd.prog 40 (if sw then #[v1, v0] else #[v0, v1]) w (RPlus l0 l1 w) := by
  obtain ⟨p0, c0, rfl, a1, a2, a3, a4⟩ := h0
  obtain ⟨p1, c1, rfl, b1, b2, b3, b4⟩ := h1
  cases sw
  all_goals
    first | simp only [if_true] at hl ⊢ | simp only [if_false, Bool.false_eq_true] at hl ⊢
    go_enter Tryd.func40, Tryd.ntmps40
    unfold maxLen at a2 b2
    go_wp2_with (first
      | (at_make; refine wpList_make_at rfl _ _ 23 rfl elemNat w.heap.size _ _ _ (l0.length + 1) rfl rfl (by simp) (by omega) (by simp [maxLen]; omega) (Nat.le_refl _) ?_; intro vo w1 ho hb1 hs1 hvo; clear hvo))
    go_loopw [5, 6, 23] (fun o c i wr => ∃ (k : Nat) (l : List Nat) (c' : Nat), k ≤ l0.length ∧ i = .int .i64 (k : Nat) ∧ c = .int .u64 (c' : Nat) ∧ c' ≤ 1 ∧ Own wr w.heap.size 59 .u64 o l ∧ l.length = k ∧ Small W l ∧
        Hid (val W l + c' * W ^ k = val W (l0.take k) + val W (l1.take k)) ∧ Below w.heap.size w wr) (fun _ _ i _ => l0.length - (intOf i).toNat)
    case atStart => exact ⟨0, [], 0, Nat.zero_le _, rfl, rfl, by omega, ho, rfl, small_nil _, by simp [Hid, val], hb1⟩
    case round =>
      obtain ⟨k, l, c', hk, rfl, rfl, hc', hown, hlk, hsl, hv, hbel⟩ := hrel
      have Hlk := hid hlk; clear hlk
      by_cases hkl : k < l0.length
      · obtain ⟨b, off, rfl, hbb, hcell⟩ := a4 (by omega)
        have e0 : wr.cell? ⟨b, off + k, none⟩ = some (.int .u64 (l0[k] : Nat)) := (hbel.cell (p := ⟨b, off + k, none⟩) hbb).trans (hcell k hkl)
        have x0 := small_get s0 k hkl
        obtain ⟨x, hx⟩ : ∃ x, x = l0[k] := ⟨_, rfl⟩
        rw [← hx] at e0 x0
        have Hx := hid hx; clear hx hcell a4
        by_cases hk1 : k < l1.length
        · obtain ⟨b', off', rfl, hbb', hcell'⟩ := b4 (by omega)
          have e1 : wr.cell? ⟨b', off' + k, none⟩ = some (.int .u64 (l1[k] : Nat)) := (hbel.cell (p := ⟨b', off' + k, none⟩) hbb').trans (hcell' k hk1)
          have y0 := small_get s1 k hk1
          obtain ⟨y, hy⟩ : ∃ y, y = l1[k] := ⟨_, rfl⟩
          rw [← hy] at e1 y0
          have Hy : Hid (y = l1[k]?.getD 0) := by unfold Hid; simpa [hk1] using hy
          clear hy hcell' b4
          obtain ⟨s, c2, hs, hsW, hc2, hadd⟩ := add64 x y c' hc'
          have hc2 := hc2 x0 y0
          have Hs := hid hs; clear hs
          go_wp2_with (first
            | (at_builtin; refine wpList_append_at rfl _ _ 23 rfl elemNat w.heap.size _ l rfl (hown.alloc _) _ [s] rfl (At.one _ _ _ _) (by rw [Hlk.out]; simp [maxLen]; omega) (by rw [Hlk.out]; simp; omega) (by have := hbel.size; simp; omega) ?_; intro v2 w2 ho2 hb2 hs2))
          go_roundw
          case rel => exact ⟨k + 1, l ++ [s], c2, by omega, by go_num, rfl, hc2, ho2, by simp [Hlk.out], small_snoc hsl hsW,
              plus_step Hlk.out Hx.out Hy.out Hs.out hv.out, (hbel.trans ((below1 _ _).mono hbel.size)).trans hb2⟩
          case measure => simp [intOf]; omega
        · obtain ⟨y, hy⟩ : ∃ y, y = 0 := ⟨_, rfl⟩
          have y0 : y < W := by rw [hy]; decide
          have Hy : Hid (y = l1[k]?.getD 0) := by unfold Hid; simpa [hk1] using hy
          obtain ⟨s, c2, hs, hsW, hc2, hadd⟩ := add64 x y c' hc'
          have hc2 := hc2 x0 y0
          have Hs := hid hs; clear hs
          rw [hy] at hadd; simp only [Int.natCast_zero] at hadd; clear hy
          go_wp2_with (first
            | (at_builtin; refine wpList_append_at rfl _ _ 23 rfl elemNat w.heap.size _ l rfl (hown.alloc _) _ [s] rfl (At.one _ _ _ _) (by rw [Hlk.out]; simp [maxLen]; omega) (by rw [Hlk.out]; simp; omega) (by have := hbel.size; simp; omega) ?_; intro v2 w2 ho2 hb2 hs2))
          go_roundw
          case rel => exact ⟨k + 1, l ++ [s], c2, by omega, by go_num, rfl, hc2, ho2, by simp [Hlk.out], small_snoc hsl hsW,
              plus_step Hlk.out Hx.out Hy.out Hs.out hv.out, (hbel.trans ((below1 _ _).mono hbel.size)).trans hb2⟩
          case measure => simp [intOf]; omega
      · obtain rfl : k = l0.length := by omega
        have hv' : val W l + c' * W ^ l0.length = val W l0 + val W l1 := by
          have := hv.out
          rwa [List.take_length, val_take_ge W l1 _ (by omega)] at this
        have Hv := hid hv'; clear hv hv' a4 b4
        by_cases hc0 : c' = 0
        · subst hc0
          go_wp2
          go_ret
          exact ⟨l, 0, hsl, Hlk.out, by omega, Hv.out, _, rfl, by simpa using hown, hbel⟩
        · obtain rfl : c' = 1 := by omega
          go_wp2_with (first
            | (at_builtin; refine wpList_append_at rfl _ _ 23 rfl elemNat w.heap.size _ l rfl (hown.alloc _) _ [1] rfl (At.one _ _ _ _) (by rw [Hlk.out]; simp [maxLen]; omega) (by rw [Hlk.out]; simp; omega) (by have := hbel.size; simp; omega) ?_; intro v2 w2 ho2 hb2 hs2))
          go_ret
          exact ⟨l, 1, hsl, Hlk.out, by omega, Hv.out, _, rfl, by simpa using ho2, (hbel.trans ((below1 _ _).mono hbel.size)).trans hb2⟩

/-- whole.plus of two numbers' digits: the sum's digits -/
theorem plus_any (va vb : Value) (n m : Nat) (w : World) (h0 : At w .u64 va (dig W n)) (h1 : At w .u64 vb (dig W m)) (hn : sz W n ≤ 1099511627776) (hm : sz W m ≤ 1099511627776) :
    Calls Tryd.prog 40 #[va, vb] w (ROwn 59 .u64 (dig W (n + m)) w) := by
  have key : ∀ l0 l1 : Nat, sz W l1 ≤ sz W l0 → ∀ e w', RPlus (dig W l0) (dig W l1) w e w' → ROwn 59 .u64 (dig W (l0 + l1)) w e w' := by
    rintro n m hnm e w' ⟨l, c, hs, hl, hc, hv, hr⟩
    rw [val_dig W2, val_dig W2] at hv
    have : (if c = 0 then l else l ++ [c]) = dig W (n + m) := by
      by_cases hc0 : c = 0
      · subst hc0
        rw [if_pos rfl]
        refine canon_val W2 hs (by omega) ?_
        by_cases h0 : n = 0
        · left; subst h0; exact List.eq_nil_of_length_eq_zero hl
        · right; rw [hl]; exact Nat.le_trans (pow_sz_le W2 (by omega)) (by omega)
      · obtain rfl : c = 1 := by omega
        rw [if_neg hc0]
        refine canon_val W2 (small_snoc hs (by decide)) (by rw [val_snoc, hl]; omega) (Or.inr ?_)
        simp only [List.length_append, List.length_singleton, Nat.add_sub_cancel, hl]
        omega
    rw [← this]; exact hr
  by_cases hlt : (dig W n).length < (dig W m).length
  · have := plus_at true vb va (dig W m) (dig W n) w h1 h0 (small_dig W2 _) (small_dig W2 _) (by simpa using hlt) hm
    refine this.mono fun e w' h => ?_
    rw [Nat.add_comm]
    exact key m n (Nat.le_of_lt hlt) e w' h
  · have := plus_at false va vb (dig W n) (dig W m) w h0 h1 (small_dig W2 _) (small_dig W2 _) (by simpa using hlt) hn
    exact this.mono fun e w' h => key n m (by unfold sz; omega) e w' h
end Go.Proofs.YtlicmnlllappnaaDoor
