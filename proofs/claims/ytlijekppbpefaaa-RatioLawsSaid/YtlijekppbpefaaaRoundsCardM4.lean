/- Texts put together: ShiftUp, ShiftDown, LongMath, Shelf, DivLong, Div, DivHalves, Gcd, DivZero, RefTimes, RefMul. -/
import Derived.Test.YtlijekppbpefaaaRoundsCardM3
import Derived.Lib.ItoaNum
import Derived.Shelf.Small.Bits
import Derived.Shelf.Small.Wraps
import Derived.Test.YtlijekppbpefaaaProg
import Derived.Deep.LoopGhost
/- whole.shiftUp: bits moved up. -/
namespace Go.Proofs.Ytlijekppbpefaaa
open Go.RowKit Big

theorem pow_split (s : Nat) (h : s ≤ 31) : 4294967296 = 2 ^ (32 - s) * 2 ^ s := by rw [← Nat.pow_add, show 32 - s + s = 32 by omega]
theorem shl_mod (x s : Nat) (h : s ≤ 31) : x * 2 ^ s % 4294967296 = 2 ^ s * (x % 2 ^ (32 - s)) := by rw [pow_split s h, Nat.mul_mod_mul_right, Nat.mul_comm]
theorem shl_div (x s : Nat) (h : s ≤ 31) : x * 2 ^ s / 4294967296 = x / 2 ^ (32 - s) := by rw [pow_split s h, Nat.mul_div_mul_right _ _ (Nat.two_pow_pos s)]
theorem shl_or (x s low : Nat) (h : s ≤ 31) (hl : low < 2 ^ s) : bits BinOp.or IntKind.u32 ((x : Int) * 2 ^ s % 4294967296) (low : Int) = ((x * 2 ^ s % 4294967296 + low : Nat) : Int) := by
  have hp : 2 ^ s ≤ 2 ^ 31 := Nat.pow_le_pow_right (by decide) h
  have e : (x : Int) * 2 ^ s % 4294967296 = ((x * 2 ^ s % 4294967296 : Nat) : Int) := by simp
  rw [e, u32_or_nat _ _ (by omega) (by omega)]
  rw [shl_mod x s h, Nat.two_pow_add_eq_or_of_lt hl]
theorem up_digit (x s low : Nat) (h : s ≤ 31) (hx : x < 4294967296) (hl : low < 2 ^ s) : x * 2 ^ s % 4294967296 + low < 4294967296 ∧ x / 2 ^ (32 - s) < 2 ^ s ∧ x / 2 ^ (32 - s) < 4294967296 := by
  have e := pow_split s h
  have hp : 0 < 2 ^ (32 - s) := Nat.two_pow_pos _
  refine ⟨?_, ?_, Nat.lt_of_le_of_lt (Nat.div_le_self _ _) hx⟩
  · rw [shl_mod x s h]
    have h1 : x % 2 ^ (32 - s) + 1 ≤ 2 ^ (32 - s) := Nat.mod_lt _ hp
    have h2 : 2 ^ s * (x % 2 ^ (32 - s) + 1) ≤ 2 ^ s * 2 ^ (32 - s) := Nat.mul_le_mul_left _ h1
    rw [Nat.mul_add, Nat.mul_comm (2 ^ s) (2 ^ (32 - s)), ← e] at h2
    omega
  · rw [Nat.div_lt_iff_lt_mul hp, Nat.mul_comm, ← e]; exact hx
theorem up_step {vX vL x s low K d : Nat} (h : s ≤ 31) (hd : d = x * 2 ^ s % 4294967296 + low) (hv : vX + K * low = vL * 2 ^ s) : (vX + K * d) + K * H * (x / 2 ^ (32 - s)) = (vL + K * x) * 2 ^ s := by
  have e := Nat.div_add_mod (x * 2 ^ s) 4294967296
  rw [shl_div x s h] at e
  have e2 : K * (4294967296 * (x / 2 ^ (32 - s)) + x * 2 ^ s % 4294967296) = K * (x * 2 ^ s) := by rw [e]
  rw [Nat.add_mul, ← hv, hd, Nat.mul_add, Nat.mul_assoc K x]
  rw [Nat.mul_add] at e2
  have e3 : K * H * (x / 2 ^ (32 - s)) = K * (4294967296 * (x / 2 ^ (32 - s))) := Nat.mul_assoc ..
  omega
def RUp (l : List Nat) (s : Nat) (w : World) (e : Ending) (w' : World) : Prop :=
  ∃ X t, X.length = l.length ∧ Small H (X ++ [t]) ∧ val H (X ++ [t]) = val H l * 2 ^ s ∧ t < 2 ^ s ∧ ROwn 90 .u32 (X ++ [t]) w e w'

set_option maxRecDepth 100000 in
set_option maxHeartbeats 1600000 in
theorem shiftUp_any (v : Value) (l : List Nat) (s : Nat) (w : World) (h : At w .u32 v l) (hs : Small H l) (hs31 : s ≤ 31) (hlen : l.length ≤ 4398046511104) :
    Calls Try.prog 81 #[v, .int .i64 (s : Nat)] w (RUp l s w) := by
  obtain ⟨p, cap, rfl, a1, a2, a3, a4⟩ := h
  unfold maxLen at a2
  go_enter Try.func81, Try.ntmps81
  go_wp2_with (first
    | (at_make; refine wpList_make_at rfl _ _ 75 rfl elemHalves w.heap.size _ _ _ (l.length + 1) rfl rfl (by first | rfl | omega | (simp; done)) (by omega) (by simp [maxLen]; omega) (Nat.le_refl _) ?_; intro vo w1 ho hb1 hs1 hvo; clear hvo))
  go_loopw [5, 6, 15] (fun o lo i wr => ∃ (k low : Nat) (X : List Nat), k ≤ l.length ∧ i = .int .i64 (k : Nat) ∧ lo = .int .u32 (low : Nat) ∧ low < 4294967296 ∧ Hid (low < 2 ^ s) ∧ Own wr w.heap.size 90 .u32 o X ∧ Hid (X.length = k) ∧ Small H X ∧
      Hid (val H X + H ^ k * low = val H (l.take k) * 2 ^ s) ∧ Below w.heap.size w wr) (fun _ _ i _ => l.length - (intOf i).toNat)
  case atStart => exact ⟨0, 0, [], Nat.zero_le _, rfl, rfl, by omega, Nat.two_pow_pos _, ho, rfl, small_nil _, by unfold Hid; simp [val], hb1⟩
  case round =>
    obtain ⟨k, low, X, hk, rfl, rfl, hl32, hlow, hown, hXk, hsX, hv, hbel⟩ := hrel
    by_cases hkl : k < l.length
    · obtain ⟨b, off, rfl, hbb, hcell⟩ := a4 (by omega)
      have e0 : wr.cell? ⟨b, off + k, none⟩ = some (.int .u32 (l[k] : Nat)) := (hbel.cell (p := ⟨b, off + k, none⟩) hbb).trans (hcell k hkl)
      have x0 := small_get hs k hkl
      obtain ⟨x, hx⟩ : ∃ x, x = l[k] := ⟨_, rfl⟩
      rw [← hx] at e0 x0
      have Hx := hid hx; clear hx hcell a4
      unfold H at x0
      obtain ⟨d, hd⟩ : ∃ d, d = x * 2 ^ s % 4294967296 + low := ⟨_, rfl⟩
      obtain ⟨u1, u2, u3⟩ := up_digit x s low hs31 x0 hlow.out
      rw [← hd] at u1
      have hor := shl_or x s low hs31 hlow.out
      rw [← hd] at hor
      have hv' : val H (X ++ [d]) + H ^ (k + 1) * (x / 2 ^ (32 - s)) = val H (l.take (k + 1)) * 2 ^ s := by
        rw [val_snoc, hXk.out, val_take_succ H l k hkl, ← Hx.out, Nat.pow_succ]
        exact up_step hs31 hd hv.out
      have Hd := hid hd; have Hor := hid hor; have Hv' := hid hv'; have U2 := hid u2; have U3 := hid u3
      clear hd hor hv' u2 u3
      go_wp2_with (at_builtin; refine wpList_append_at rfl _ _ 75 rfl elemHalves w.heap.size _ X rfl (hown.alloc _) _ [d] rfl (At.oneI _ _ _ _ _ (by exact Hor.out)) (by rw [hXk.out]; simp [maxLen]; omega) (by rw [hXk.out]; simp; omega) (by have := hbel.size; simp; omega) ?_; intro v2 w2 ho2 hb2 hs2)
      go_roundw
      case rel => exact ⟨k + 1, x / 2 ^ (32 - s), X ++ [d], by omega, by go_num, by simp, U3.out, U2.out, ho2, by have := hXk.out; unfold Hid; simp; omega, small_snoc hsX u1, Hv'.out, (hbel.trans ((below1 _ _).mono hbel.size)).trans hb2⟩
      case measure => (simp [intOf] <;> omega)
    · obtain rfl : k = l.length := by omega
      clear a4
      go_wp2_with (at_builtin; refine wpList_append_at rfl _ _ 75 rfl elemHalves w.heap.size _ X rfl (hown.alloc _) _ [low] rfl (At.oneI _ _ _ _ _ (by rfl)) (by rw [hXk.out]; simp [maxLen]; omega) (by rw [hXk.out]; simp; omega) (by have := hbel.size; simp; omega) ?_; intro v2 w2 ho2 hb2 hs2)
      go_ret
      refine ⟨X, low, hXk.out, small_snoc hsX hl32, ?_, hlow.out, _, rfl, ho2, (hbel.trans ((below1 _ _).mono hbel.size)).trans hb2⟩
      have := hv.out
      rw [List.take_length] at this
      rw [val_snoc, hXk.out, this]
end Go.Proofs.Ytlijekppbpefaaa
/- whole.shiftDown: bits moved down. -/
namespace Go.Proofs.Ytlijekppbpefaaa
open Go.RowKit Big

/-- the digits of a value whose last s bits are to go: of list l, moved down, the first k -/
theorem down_digit (x y s : Nat) (h : s ≤ 31) (hx : x < 4294967296) : x / 2 ^ s + y * 2 ^ (32 - s) % 4294967296 < 4294967296 ∧
    bits BinOp.or IntKind.u32 ((x : Int) / 2 ^ s) ((y : Int) * 2 ^ (32 - s) % 4294967296) = ((x / 2 ^ s + y * 2 ^ (32 - s) % 4294967296 : Nat) : Int) := by
  by_cases h0 : s = 0
  · subst h0
    have e : y * 2 ^ (32 - 0) % 4294967296 = 0 := by show y * 4294967296 % 4294967296 = 0; omega
    have e' : (y : Int) * 2 ^ (32 - 0) % 4294967296 = ((y * 2 ^ (32 - 0) % 4294967296 : Nat) : Int) := by simp
    rw [e', e]
    have e2 : (x : Int) / 2 ^ 0 = ((x : Nat) : Int) := by simp
    rw [e2, u32_or_nat _ _ (by omega) (by omega)]
    simp
    omega
  · have hp := pow_split s h
    have hq : x / 2 ^ s < 2 ^ (32 - s) := by rw [Nat.div_lt_iff_lt_mul (Nat.two_pow_pos s), ← hp]; exact hx
    have e := shl_mod y (32 - s) (by omega)
    rw [show 32 - (32 - s) = s by omega] at e
    have hl : 2 ^ (32 - s) * (y % 2 ^ s) + 2 ^ (32 - s) ≤ 4294967296 := by
      have h1 : y % 2 ^ s + 1 ≤ 2 ^ s := Nat.mod_lt _ (Nat.two_pow_pos s)
      have h2 : 2 ^ (32 - s) * (y % 2 ^ s + 1) ≤ 2 ^ (32 - s) * 2 ^ s := Nat.mul_le_mul_left _ h1
      rw [← hp, Nat.mul_add] at h2
      omega
    refine ⟨by rw [e]; omega, ?_⟩
    have e1 : (x : Int) / 2 ^ s = ((x / 2 ^ s : Nat) : Int) := by simp
    have e2 : (y : Int) * 2 ^ (32 - s) % 4294967296 = ((y * 2 ^ (32 - s) % 4294967296 : Nat) : Int) := by simp
    rw [e1, e2, u32_or_nat _ _ (by omega) (by omega), e, Nat.or_comm, ← Nat.two_pow_add_eq_or_of_lt hq, Nat.add_comm]
theorem down_step {vX vL x y s r0 K d : Nat} (h : s ≤ 31) (hd : d = x / 2 ^ s + y * 2 ^ (32 - s) % 4294967296) (hv : 2 ^ s * vX + r0 = vL + K * (x % 2 ^ s)) :
    2 ^ s * (vX + K * d) + r0 = (vL + K * x) + K * H * (y % 2 ^ s) := by
  have e := Nat.div_add_mod x (2 ^ s)
  have e1 : 2 ^ s * (y * 2 ^ (32 - s) % 4294967296) = H * (y % 2 ^ s) := by
    by_cases h0 : s = 0
    · subst h0
      have a : y * 2 ^ (32 - 0) % 4294967296 = 0 := by show y * 4294967296 % 4294967296 = 0; omega
      rw [a]; simp [Nat.mod_one]
    · have a := shl_mod y (32 - s) (by omega)
      rw [show 32 - (32 - s) = s by omega] at a
      rw [a, ← Nat.mul_assoc, Nat.mul_comm (2 ^ s), ← pow_split s h]; rfl
  have e2 : K * (2 ^ s * (x / 2 ^ s) + x % 2 ^ s) = K * x := by rw [e]
  have e3 : 2 ^ s * (K * d) = K * (2 ^ s * (x / 2 ^ s)) + K * (H * (y % 2 ^ s)) := by
    rw [Nat.mul_left_comm, hd, Nat.mul_add, e1, Nat.mul_add]
  rw [Nat.mul_add] at e2
  rw [Nat.mul_add, e3, Nat.mul_assoc K H]
  omega

set_option maxRecDepth 100000 in
set_option maxHeartbeats 1600000 in
theorem shiftDown_any (v : Value) (l : List Nat) (s : Nat) (w : World) (h : At w .u32 v l) (hs : Small H l) (hs31 : s ≤ 31) (hlen : l.length ≤ 4398046511104) :
    Calls Try.prog 83 #[v, .int .i64 (s : Nat)] w (ROwn 90 .u32 (dig H (val H l / 2 ^ s)) w) := by
  obtain ⟨p, cap, rfl, a1, a2, a3, a4⟩ := h
  unfold maxLen at a2
  obtain ⟨r0, hr0⟩ : ∃ r, r = l[0]?.getD 0 % 2 ^ s := ⟨_, rfl⟩
  have Hr0 := hid hr0
  clear hr0
  go_enter Try.func83, Try.ntmps83
  go_wp2_with (first
    | (at_make; refine wpList_make_at rfl _ _ 75 rfl elemHalves w.heap.size _ _ _ l.length rfl rfl (by first | rfl | omega | (simp; done)) (by omega) (by simp [maxLen]; omega) (Nat.le_refl _) ?_; intro vo w1 ho hb1 hs1 hvo; clear hvo))
  go_loopw [5, 14] (fun o i wr => ∃ (k : Nat) (X : List Nat), k ≤ l.length ∧ i = .int .i64 (k : Nat) ∧ Own wr w.heap.size 90 .u32 o X ∧ Hid (X.length = k) ∧ Small H X ∧
      Hid (2 ^ s * val H X + r0 = val H (l.take k) + H ^ k * (l[k]?.getD 0 % 2 ^ s)) ∧ Below w.heap.size w wr) (fun _ i _ => l.length - (intOf i).toNat)
  case atStart => exact ⟨0, [], Nat.zero_le _, rfl, ho, rfl, small_nil _, by unfold Hid; rw [Hr0.out]; simp [val], hb1⟩
  case round =>
    obtain ⟨k, X, hk, rfl, hown, hXk, hsX, hv, hbel⟩ := hrel
    by_cases hkl : k < l.length
    · obtain ⟨b, off, rfl, hbb, hcell⟩ := a4 (by omega)
      have e0 : wr.cell? ⟨b, off + k, none⟩ = some (.int .u32 (l[k] : Nat)) := (hbel.cell (p := ⟨b, off + k, none⟩) hbb).trans (hcell k hkl)
      have x0 := small_get hs k hkl
      obtain ⟨x, hx⟩ : ∃ x, x = l[k] := ⟨_, rfl⟩
      rw [← hx] at e0 x0
      have Hx := hid hx
      have hv1 := hv.out
      rw [List.getElem?_eq_getElem hkl, Option.getD_some, ← hx] at hv1
      clear hx
      unfold H at x0
      by_cases hk1 : k + 1 < l.length
      · have e1 : wr.cell? ⟨b, off + (k + 1), none⟩ = some (.int .u32 (l[k + 1] : Nat)) := (hbel.cell (p := ⟨b, off + (k + 1), none⟩) hbb).trans (hcell (k + 1) hk1)
        have y0 := small_get hs (k + 1) hk1
        obtain ⟨y, hy⟩ : ∃ y, y = l[k + 1] := ⟨_, rfl⟩
        rw [← hy] at e1 y0
        unfold H at y0
        obtain ⟨d1, d2⟩ := down_digit x y s hs31 x0
        obtain ⟨d, hd⟩ : ∃ d, d = x / 2 ^ s + y * 2 ^ (32 - s) % 4294967296 := ⟨_, rfl⟩
        rw [← hd] at d1 d2
        have hv' : 2 ^ s * val H (X ++ [d]) + r0 = val H (l.take (k + 1)) + H ^ (k + 1) * (l[k + 1]?.getD 0 % 2 ^ s) := by
          rw [val_snoc, hXk.out, val_take_succ H l k hkl, ← Hx.out, Nat.pow_succ, List.getElem?_eq_getElem hk1, Option.getD_some, ← hy]
          exact down_step hs31 hd hv1
        have D2 := hid d2; have Hv' := hid hv'
        clear d2 hv' hd hy hv1 hcell a4
        go_wp2_with (at_builtin; refine wpList_append_at rfl _ _ 75 rfl elemHalves w.heap.size _ X rfl (hown.alloc _) _ [d] rfl (At.oneI _ _ _ _ _ (by exact D2.out)) (by rw [hXk.out]; simp [maxLen]; omega) (by rw [hXk.out]; simp; omega) (by have := hbel.size; simp; omega) ?_; intro v2 w2 ho2 hb2 hs2)
        go_roundw
        case rel => exact ⟨k + 1, X ++ [d], by omega, by go_num, ho2, by have := hXk.out; unfold Hid; simp; omega, small_snoc hsX d1, Hv'.out, (hbel.trans ((below1 _ _).mono hbel.size)).trans hb2⟩
        case measure => (simp [intOf] <;> omega)
      · obtain ⟨d1, d2⟩ := down_digit x 0 s hs31 x0
        have d2' : bits BinOp.or IntKind.u32 ((x : Int) / 2 ^ s) 0 = ((x / 2 ^ s + 0 * 2 ^ (32 - s) % 4294967296 : Nat) : Int) := by
          have e : ((0 : Nat) : Int) * 2 ^ (32 - s) % 4294967296 = 0 := by simp
          rw [e] at d2; exact d2
        obtain ⟨d, hd⟩ : ∃ d, d = x / 2 ^ s + 0 * 2 ^ (32 - s) % 4294967296 := ⟨_, rfl⟩
        rw [← hd] at d1 d2'
        have hv' : 2 ^ s * val H (X ++ [d]) + r0 = val H (l.take (k + 1)) + H ^ (k + 1) * (l[k + 1]?.getD 0 % 2 ^ s) := by
          rw [val_snoc, hXk.out, val_take_succ H l k hkl, ← Hx.out, Nat.pow_succ, List.getElem?_eq_none (by omega)]
          exact down_step hs31 hd hv1
        have D2 := hid d2'; have Hv' := hid hv'
        clear d2 d2' hv' hd hv1 hcell a4
        go_wp2_with (at_builtin; refine wpList_append_at rfl _ _ 75 rfl elemHalves w.heap.size _ X rfl (hown.alloc _) _ [d] rfl (At.oneI _ _ _ _ _ (by exact D2.out)) (by rw [hXk.out]; simp [maxLen]; omega) (by rw [hXk.out]; simp; omega) (by have := hbel.size; simp; omega) ?_; intro v2 w2 ho2 hb2 hs2)
        go_roundw
        case rel => exact ⟨k + 1, X ++ [d], by omega, by go_num, ho2, by have := hXk.out; unfold Hid; simp; omega, small_snoc hsX d1, Hv'.out, (hbel.trans ((below1 _ _).mono hbel.size)).trans hb2⟩
        case measure => (simp [intOf] <;> omega)
    · obtain rfl : k = l.length := by omega
      have hv' : Hid (strip X = dig H (val H l / 2 ^ s)) := by
        have := hv.out
        rw [List.take_length, List.getElem?_eq_none (Nat.le_refl _)] at this
        have hr : r0 < 2 ^ s := by rw [Hr0.out]; exact Nat.mod_lt _ (Nat.two_pow_pos s)
        simp only [Option.getD_none, Nat.zero_mod, Nat.mul_zero, Nat.add_zero] at this
        unfold Hid
        rw [← this, Nat.mul_add_div (Nat.two_pow_pos s), Nat.div_eq_of_lt hr, Nat.add_zero, strip_dig H2 hsX]
      have hst := strip_length X
      have ht := hid (htrim_val _ X wr hown.at)
      clear a4
      go_wp2_with (go_at_call 75; refine ht.out.mono ?_; rintro e w' ⟨rfl, rfl⟩)
      go_ret
      obtain ⟨po, co, rfl, -⟩ := id hown.at
      exact ⟨_, rfl, by rw [← hv'.out]; have := hown.take (strip X).length hst; rwa [← strip_is_take] at this, hbel⟩
end Go.Proofs.Ytlijekppbpefaaa
/- whole.divideLong: plain numbers. -/
namespace Go.Proofs.Ytlijekppbpefaaa
open Go.RowKit Big

theorem lead_ok (t : Nat) (h0 : 0 < t) (h : t < 4294967296) : ∃ s : Nat, s ≤ 31 ∧ (32 - (Lib.bitLen t : Int)) = (s : Int) ∧ 2147483648 ≤ t * 2 ^ s ∧ (t + 1) * 2 ^ s ≤ 4294967296 := by
  obtain ⟨a, b, c⟩ := Lib.bitLenAux_bounds 64 t (Nat.lt_trans h (by decide)) (by omega)
  have hb : Lib.bitLen t ≤ 32 := Lib.bitLen_le t 32 (by decide) h
  change 1 ≤ Lib.bitLen t at a
  change 2 ^ (Lib.bitLen t - 1) ≤ t at b
  change t < 2 ^ Lib.bitLen t at c
  generalize Lib.bitLen t = L at *
  refine ⟨32 - L, by omega, by omega, ?_, ?_⟩
  · have e : 2 ^ (L - 1) * 2 ^ (32 - L) = 2147483648 := by rw [← Nat.pow_add, show L - 1 + (32 - L) = 31 by omega]
    have := Nat.mul_le_mul_right (2 ^ (32 - L)) b
    omega
  · have e : 2 ^ L * 2 ^ (32 - L) = 4294967296 := by rw [← Nat.pow_add, show L + (32 - L) = 32 by omega]
    have := Nat.mul_le_mul_right (2 ^ (32 - L)) (show t + 1 ≤ 2 ^ L from c)
    omega
/-- the divisor, moved up: as many halves, the highest bit set -/
theorem up_divisor {b s m : Nat} {l : List Nat} (hl : l = dig H b) (hm : l.length = m + 2) (t : Nat) (ht : t = l[m + 1]'(by omega)) (h1 : 2147483648 ≤ t * 2 ^ s) (h2 : (t + 1) * 2 ^ s ≤ 4294967296) :
    (dig H (b * 2 ^ s)).length = m + 2 ∧ ∀ h : m + 1 < (dig H (b * 2 ^ s)).length, 2147483648 ≤ (dig H (b * 2 ^ s))[m + 1]'h := by
  have hv : val H l = b := by rw [hl, val_dig H2]
  have hs : Small H l := by rw [hl]; exact small_dig H2 b
  have e := val_take_succ H l (m + 1) (by omega)
  rw [show m + 1 + 1 = l.length by omega, List.take_length, hv, ← ht] at e
  have lt : val H (l.take (m + 1)) < H ^ (m + 1) := val_take_lt hs (m + 1) (by omega)
  have e1 : H ^ (m + 1) * 2147483648 ≤ b * 2 ^ s := by
    rw [e, Nat.add_mul, Nat.mul_assoc]
    have := Nat.mul_le_mul_left (H ^ (m + 1)) h1
    omega
  have e2 : b * 2 ^ s < H ^ (m + 2) := by
    have a1 : b + 1 ≤ H ^ (m + 1) * (t + 1) := by rw [e, Nat.mul_add]; omega
    have a2 : (b + 1) * 2 ^ s ≤ H ^ (m + 1) * (t + 1) * 2 ^ s := Nat.mul_le_mul_right _ a1
    have a3 : H ^ (m + 1) * (t + 1) * 2 ^ s ≤ H ^ (m + 1) * 4294967296 := by rw [Nat.mul_assoc]; exact Nat.mul_le_mul_left _ h2
    have a4 : H ^ (m + 2) = H ^ (m + 1) * 4294967296 := Nat.pow_succ ..
    have a5 : 0 < 2 ^ s := Nat.two_pow_pos s
    rw [Nat.add_mul] at a2
    omega
  have hlen : (dig H (b * 2 ^ s)).length = m + 2 := by
    have h3 : sz H (b * 2 ^ s) ≤ m + 2 := sz_le_of_lt H2 e2
    have h4 : ¬ sz H (b * 2 ^ s) ≤ m + 1 := fun hle => by
      have a1 := lt_pow_sz H2 (b * 2 ^ s)
      have a2 : H ^ sz H (b * 2 ^ s) ≤ H ^ (m + 1) := Nat.pow_le_pow_right (by decide) hle
      omega
    show sz H (b * 2 ^ s) = m + 2
    omega
  refine ⟨hlen, fun hh => ?_⟩
  have f := val_take_succ H (dig H (b * 2 ^ s)) (m + 1) (by omega)
  rw [show m + 1 + 1 = (dig H (b * 2 ^ s)).length by omega, List.take_length, val_dig H2] at f
  have lt2 : val H ((dig H (b * 2 ^ s)).take (m + 1)) < H ^ (m + 1) := val_take_lt (small_dig H2 _) (m + 1) (by omega)
  generalize (dig H (b * 2 ^ s))[m + 1]'(by omega) = u at *
  have g : H ^ (m + 1) * 2147483648 < H ^ (m + 1) * (u + 1) := by rw [Nat.mul_add]; omega
  have := Nat.lt_of_mul_lt_mul_left g
  omega
/-- the dividend, moved up: its highest halves are less than the divisor -/
theorem up_rest {X : List Nat} {t b s m k : Nat} (hs : Small H (X ++ [t])) (ht : t < 2 ^ s) (hX : X.length = k + (m + 1)) (hb : H ^ (m + 1) ≤ b) : val H ((X ++ [t]).drop k) < b * 2 ^ s := by
  have e : (X ++ [t]).drop k = X.drop k ++ [t] := by rw [List.drop_append_of_le_length (by omega)]
  have hl : (X.drop k).length = m + 1 := by simp; omega
  rw [e, val_snoc, hl]
  have h1 := val_lt (B := H) (by decide) (small_drop (small_left hs) k)
  rw [hl] at h1
  have h2 : H ^ (m + 1) * (t + 1) ≤ H ^ (m + 1) * 2 ^ s := Nat.mul_le_mul_left _ ht
  have h3 : H ^ (m + 1) * 2 ^ s ≤ b * 2 ^ s := Nat.mul_le_mul_right _ hb
  rw [Nat.mul_add] at h2
  omega
/-- what lies above a window is 0 -/
theorem above_zero {R : List Nat} {D k M : Nat} (hD : D < H ^ M) (h : val H (R.drop (k + 1)) < D) : val H (R.drop (k + M + 1)) = 0 := by
  by_cases hz : val H (R.drop (k + M + 1)) = 0
  · exact hz
  · exfalso
    by_cases hk : M ≤ (R.drop (k + 1)).length
    · have e := val_take_drop H (R.drop (k + 1)) M hk
      rw [List.drop_drop, show k + 1 + M = k + M + 1 by omega] at e
      have : H ^ M * 1 ≤ H ^ M * val H (R.drop (k + M + 1)) := Nat.mul_le_mul_left _ (by omega)
      omega
    · apply hz
      rw [List.drop_of_length_le (by simp at hk; omega)]; rfl
theorem long_lt {R : List Nat} {D k M : Nat} (sR : Small H R) (hM : D < H ^ M) (hk : k + M + 1 ≤ R.length) (h : val H (R.drop (k + 1)) < D) : val H ((R.drop k).take (M + 1)) < D * H := by
  have z := above_zero hM h
  have w1 : val H (R.drop k) = val H ((R.drop k).take (M + 1)) := by
    have e := val_take_drop H (R.drop k) (M + 1) (by simp; omega)
    rw [List.drop_drop, ← Nat.add_assoc, z, Nat.mul_zero, Nat.add_zero] at e
    exact e
  have w2 : val H (R.drop k) = R[k]'(by omega) + H * val H (R.drop (k + 1)) := val_drop_succ H R k (by omega)
  have rk := small_get sR k (by omega)
  rw [← w1, w2]
  have : H * (val H (R.drop (k + 1)) + 1) ≤ H * D := Nat.mul_le_mul_left _ h
  rw [Nat.mul_add] at this
  rw [Nat.mul_comm D H]
  omega
/-- one round -/
theorem long_step {R X Z : List Nat} {D k M n : Nat} (sR : Small H R) (hM : D < H ^ M) (hk : k + M + 1 ≤ R.length) (hZ : k < Z.length) (h : val H (R.drop (k + 1)) < D) (hv : n = val H R + D * H ^ (k + 1) * val H (Z.drop (k + 1)))
    (hX : X.length = M + 1) (hXv : val H X = val H ((R.drop k).take (M + 1)) % D) :
    val H ((R.drop k).take (M + 1)) < D * H ∧
    val H ((R.take k ++ X ++ R.drop (k + M + 1)).drop k) < D ∧ n = val H (R.take k ++ X ++ R.drop (k + M + 1)) + D * H ^ k * val H ((Z.set k (val H ((R.drop k).take (M + 1)) / D)).drop k) := by
  have z := above_zero hM h
  have w1 : val H (R.drop k) = val H ((R.drop k).take (M + 1)) := by
    have e := val_take_drop H (R.drop k) (M + 1) (by simp; omega)
    rw [List.drop_drop, ← Nat.add_assoc, z, Nat.mul_zero, Nat.add_zero] at e
    exact e
  have w2 : val H (R.drop k) = R[k]'(by omega) + H * val H (R.drop (k + 1)) := val_drop_succ H R k (by omega)
  have rk := small_get sR k (by omega)
  have hD : 0 < D := by omega
  have lt1 : val H ((R.drop k).take (M + 1)) < D * H := by
    rw [← w1, w2]
    have : H * (val H (R.drop (k + 1)) + 1) ≤ H * D := Nat.mul_le_mul_left _ h
    rw [Nat.mul_add] at this
    rw [Nat.mul_comm D H]
    omega
  refine ⟨lt1, ?_, ?_⟩
  · have e : (R.take k ++ X ++ R.drop (k + M + 1)).drop k = X ++ R.drop (k + M + 1) := by
      rw [List.append_assoc, List.drop_append_of_le_length (by simp; omega), List.drop_of_length_le (by simp; omega), List.nil_append]
    rw [e, val_append, z, Nat.mul_zero, Nat.add_zero, hXv]
    exact Nat.mod_lt _ hD
  · have e1 : val H (R.take k ++ X ++ R.drop (k + M + 1)) = val H (R.take k) + H ^ k * val H X := by
      rw [List.append_assoc, val_append, val_append, z, Nat.mul_zero, Nat.add_zero]
      congr 3
      simp; omega
    have e2 : val H R = val H (R.take k) + H ^ k * val H ((R.drop k).take (M + 1)) := by rw [val_take_drop H R k (by omega), w1]
    have e3 : val H ((Z.set k (val H ((R.drop k).take (M + 1)) / D)).drop k) = val H ((R.drop k).take (M + 1)) / D + H * val H (Z.drop (k + 1)) := by
      rw [val_drop_succ H _ k (by simpa using hZ)]
      congr 1
      · simp
      · congr 2
        rw [List.drop_set_of_lt (by omega)]
    rw [hv, e1, e2, e3, hXv]
    have e4 := Nat.div_add_mod (val H ((R.drop k).take (M + 1))) D
    generalize val H ((R.drop k).take (M + 1)) = y at *
    generalize val H (Z.drop (k + 1)) = z' at *
    generalize y / D = q at *
    generalize y % D = r at *
    rw [← e4, Nat.pow_succ]
    have a1 : H ^ k * (D * q + r) = D * H ^ k * q + H ^ k * r := by rw [Nat.mul_add, Nat.mul_comm D (H ^ k), Nat.mul_assoc]
    have a2 : D * H ^ k * (q + H * z') = D * H ^ k * q + D * (H ^ k * H) * z' := by rw [Nat.mul_add, ← Nat.mul_assoc, ← Nat.mul_assoc D, Nat.mul_assoc (D * H ^ k)]
    omega
/-- the end -/
theorem long_end {a b s r q : Nat} (h : a * 2 ^ s = r + b * 2 ^ s * q) (hr : r < b * 2 ^ s) : q = a / b ∧ r / 2 ^ s = a % b := by
  have p : 0 < 2 ^ s := Nat.two_pow_pos s
  have hb : 0 < b := Nat.pos_of_ne_zero fun e => by subst e; simp at hr
  have e1 : (a * 2 ^ s) / (b * 2 ^ s) = q := by
    rw [h, Nat.add_comm, Nat.mul_add_div (Nat.mul_pos hb p), Nat.div_eq_of_lt hr, Nat.add_zero]
  have e2 : (a * 2 ^ s) % (b * 2 ^ s) = r := by
    rw [h, Nat.add_comm, Nat.mul_add_mod, Nat.mod_eq_of_lt hr]
  rw [Nat.mul_div_mul_right _ _ p] at e1
  rw [Nat.mul_mod_mul_right] at e2
  exact ⟨e1.symm, by rw [← e2, Nat.mul_div_cancel _ p]⟩
end Go.Proofs.Ytlijekppbpefaaa
/-
  DERIVED: THE SHELF's CONTRACTS AT THIS DUMP, IN PLAIN WORDS (tools/lay-plain.mjs out of 'TryShelf.lean', which tools/lay-shelf.mjs wrote): THE SAME DECLARATIONS UNDER THE SAME NAMES: 'import', 'namespace', 'open', 'def', 'theorem' AND NOTHING ELSE: no command of the shelf's: FOR A HAND-IN. Each laying: the table of numbers ('.._ren') and one theorem, a field a fact of the dump's own or the kernel's comparison; each contract: ONE APPLICATION.
-/
namespace Go.Proofs
open Go.Shelf
def Try.lays128_ren : Go.Shelf.Ren := ⟨fun | 128 => 84 | n => n, fun | 51 => 90 | 3 => 3 | 4 => 4 | 46 => 84 | 5 => 5 | 9 => 9 | n => n, fun | n => n⟩
theorem Try.lays128 : Go.Proofs.Lays.n128 Try.prog Try.lays128_ren := {
  mixed := by kernel_rfl
  f128 := Try.func84.trans (congrArg some (by kernel_rfl))
  t3 := Try.underlying3
  a3 := Try.isAgg3
  z3 := Try.sizeOf3
  v3 := Try.zeroValue3
  t4 := Try.underlying4
  a4 := Try.isAgg4
  z4 := Try.sizeOf4
  v4 := Try.zeroValue4
  t5 := Try.underlying5
  a5 := Try.isAgg5
  z5 := Try.sizeOf5
  v5 := Try.zeroValue5
  t9 := Try.underlying9
  a9 := Try.isAgg9
  z9 := Try.sizeOf9
  v9 := Try.zeroValue9
  t46 := Try.underlying84
  a46 := Try.isAgg84
  z46 := Try.sizeOf84
  v46 := Try.zeroValue84
  t51 := Try.underlying90
  a51 := Try.isAgg90
  z51 := Try.sizeOf90
  v51 := Try.zeroValue90 }
/-- bits.Len32: "Len32 returns the minimum number of bits required to represent x; the result is 0 for x == 0.": IT RETURNS 'Lib.bitLen x'; the world is as it was. ('h0', 'h1': x is a uint32.) (LAID: no walk: one application.) -/
theorem Try.bits_Len32 (x : Int) (w : World) (h0 : 0 ≤ x) (h1 : x ≤ 4294967295) :
    Calls Try.prog 84 #[.int .u32 x] w fun e w' => e = .returned (.int .i64 (Lib.bitLen x.toNat)) ∧ w' = w := Any.bits_Len32 Try.lays128 x w h0 h1
def Try.lays133_ren : Go.Shelf.Ren := ⟨fun | 133 => 80 | 128 => 84 | n => n, fun | 51 => 90 | 3 => 3 | 4 => 4 | 46 => 84 | 5 => 5 | 9 => 9 | n => n, fun | n => n⟩
theorem Try.lays133 : Go.Proofs.Lays.n133 Try.prog Try.lays133_ren := {
  mixed := by kernel_rfl
  f128 := Try.func84.trans (congrArg some (by kernel_rfl))
  f133 := Try.func80.trans (congrArg some (by kernel_rfl))
  t3 := Try.underlying3
  a3 := Try.isAgg3
  z3 := Try.sizeOf3
  v3 := Try.zeroValue3
  t4 := Try.underlying4
  a4 := Try.isAgg4
  z4 := Try.sizeOf4
  v4 := Try.zeroValue4
  t5 := Try.underlying5
  a5 := Try.isAgg5
  z5 := Try.sizeOf5
  v5 := Try.zeroValue5
  t9 := Try.underlying9
  a9 := Try.isAgg9
  z9 := Try.sizeOf9
  v9 := Try.zeroValue9
  t46 := Try.underlying84
  a46 := Try.isAgg84
  z46 := Try.sizeOf84
  v46 := Try.zeroValue84
  t51 := Try.underlying90
  a51 := Try.isAgg90
  z51 := Try.sizeOf90
  v51 := Try.zeroValue90 }
/-- bits.LeadingZeros32: "LeadingZeros32 returns the number of leading zero bits in x; the result is 32 for x == 0.": IT RETURNS '32 - Lib.bitLen x'; the world is as it was. ITS CALLEE bits.Len32 IS MET BY ITS OWN CONTRACT OFF THE SHELF (lay that first): entered in place it sends the kernel out of memory. (LAID: no walk: one application.) -/
theorem Try.bits_LeadingZeros32 (x : Int) (w : World) (h0 : 0 ≤ x) (h1 : x ≤ 4294967295) :
    Calls Try.prog 80 #[.int .u32 x] w fun e w' => e = .returned (.int .i64 (32 - (Lib.bitLen x.toNat : Int))) ∧ w' = w := Any.bits_LeadingZeros32 Try.lays133 x w h0 h1
def Try.lays215_ren : Go.Shelf.Ren := ⟨fun | 215 => 69 | n => n, fun | 3 => 3 | 4 => 4 | n => n, fun | n => n⟩
theorem Try.lays215 : Go.Proofs.Lays.n215 Try.prog Try.lays215_ren := {
  mixed := by kernel_rfl
  f215 := Try.func69.trans (congrArg some (by kernel_rfl))
  t3 := Try.underlying3
  a3 := Try.isAgg3
  z3 := Try.sizeOf3
  v3 := Try.zeroValue3
  t4 := Try.underlying4
  a4 := Try.isAgg4
  z4 := Try.sizeOf4
  v4 := Try.zeroValue4 }
open Go.RowKit in
/-- cmp.isNaN at int: 'x != x': false. (LAID: no walk: one application.) -/
theorem Try.cmp_isNaN_int (x : Int) (w : World) :
    Calls Try.prog 69 #[.int .i64 x] w fun e w' => e = .returned (.bool false) ∧ w' = w := Any.cmp_isNaN_int Try.lays215 x w
def Try.lays122_ren : Go.Shelf.Ren := ⟨fun | 122 => 52 | 215 => 69 | n => n, fun | 3 => 3 | 4 => 4 | n => n, fun | n => n⟩
theorem Try.lays122 : Go.Proofs.Lays.n122 Try.prog Try.lays122_ren := {
  mixed := by kernel_rfl
  f122 := Try.func52.trans (congrArg some (by kernel_rfl))
  f215 := Try.func69.trans (congrArg some (by kernel_rfl))
  t3 := Try.underlying3
  a3 := Try.isAgg3
  z3 := Try.sizeOf3
  v3 := Try.zeroValue3
  t4 := Try.underlying4
  a4 := Try.isAgg4
  z4 := Try.sizeOf4
  v4 := Try.zeroValue4 }
open Go.RowKit in
/-- cmp.Compare at int: "Compare returns -1 if x is less than y, 0 if x equals y, +1 if x is greater than y.": IT RETURNS 'Lib.compareInt x y'; the world is as it was. (LAID: no walk: one application.) -/
theorem Try.cmp_Compare_int (x y : Int) (w : World) :
    Calls Try.prog 52 #[.int .i64 x, .int .i64 y] w fun e w' => e = .returned (.int .i64 (Lib.compareInt x y)) ∧ w' = w := Any.cmp_Compare_int Try.lays122 x y w
end Go.Proofs
/- whole.divideLong: the walk. -/
namespace Go.Proofs.Ytlijekppbpefaaa
open Go.RowKit Big

theorem Own.other {w w' : World} {base : Nat} {e : TypeId} {k : IntKind} {v : Value} {l : List Nat} {row : Option Nat} (h : Own w base e k v l) (hg : w.grownBy w' row) (hne : ∀ g, v.ownBlock = some g → some g ≠ row) : Own w' base e k v l := by
  refine ⟨h.1, ?_⟩
  rcases h.2 with hn | ⟨g, cap, cur, rfl, h1, hh, r⟩
  · exact Or.inl hn
  · exact Or.inr ⟨g, cap, cur, rfl, h1, by rw [hg.block g (Array.getElem?_eq_some_iff.1 hh).1 (hne g rfl)]; exact hh, r⟩
def RQuo (q r : Nat) (w : World) (e : Ending) (w' : World) : Prop := ∃ v v', e = .returned (.tuple #[v, v']) ∧ At w' .u32 v (dig H q) ∧ At w' .u32 v' (dig H r) ∧ Below w.heap.size w w'

set_option maxRecDepth 100000 in
set_option maxHeartbeats 3200000 in
theorem divideLong_any (v0 v1 : Value) (a b : Nat) (w : World) (h0 : At w .u32 v0 (dig H a)) (h1 : At w .u32 v1 (dig H b)) (m : Nat) (hm : (dig H b).length = m + 2) (hab : (dig H b).length ≤ (dig H a).length) (hlen : (dig H a).length ≤ 2199023255552) :
    Calls Try.prog 76 #[v0, v1] w (RQuo (a / b) (a % b) w) := by
  have sa := small_dig H2 a
  have sb := small_dig H2 b
  have va := val_dig H2 a
  have hb1 : H ^ (m + 1) ≤ b := by
    have h2 : sz H b = m + 2 := hm
    have hp : 0 < b := Nat.pos_of_ne_zero fun e => by rw [e] at h2; simp [sz_zero] at h2
    have := pow_sz_le H2 hp
    rwa [h2] at this
  obtain ⟨p1, c1, rfl, b1, b2, b3, b4⟩ := id h1
  obtain ⟨bb, off, rfl, hbb, hcell⟩ := b4 (by omega)
  have e0 : w.cell? ⟨bb, off + (m + 1), none⟩ = some (.int .u32 ((dig H b)[m + 1]'(by omega) : Nat)) := hcell (m + 1) (by omega)
  have t0 := small_get sb (m + 1) (by omega)
  have tpos : 0 < (dig H b)[m + 1]'(by omega) := by
    have := last_dig H2 b (by intro e; rw [e] at hm; simp at hm)
    rw [List.getLast_eq_getElem] at this
    have hi : (dig H b).length - 1 = m + 1 := by omega
    simp only [hi] at this
    omega
  obtain ⟨t, ht⟩ : ∃ t, t = (dig H b)[m + 1]'(by omega) := ⟨_, rfl⟩
  rw [← ht] at e0 t0 tpos
  obtain ⟨s, hs31, hlz, hs1, hs2⟩ := lead_ok t tpos t0
  have hdd := up_divisor rfl hm t ht hs1 hs2
  have hup0 : ∀ W', At W' .u32 v0 (dig H a) → Calls Try.prog 81 #[v0, .int .i64 (s : Nat)] W' (RUp (dig H a) s W') := fun W' hW => shiftUp_any v0 _ s W' hW sa hs31 (by omega)
  have hup1 := shiftUp_any _ _ s w h1 sb hs31 (by omega)
  rw [hm] at hup1
  have hlz' := Try.bits_LeadingZeros32 (t : Int) w (by omega) (by unfold H at t0; omega)
  rw [Int.toNat_natCast, hlz] at hlz'
  replace hlz' := hlz'.mono (R' := fun e w' => e = .returned (.int .i64 (s : Nat)) ∧ w = w') (fun e w' h => ⟨h.1, h.2.symm⟩)
  have Hup0 := hid hup0; have Hup1 := hid hup1; have Hlz := hid hlz'; have Hva := hid va; have Hdd := hid hdd; have Hb1 := hid hb1
  have A0 := hid h0
  obtain ⟨L, hL⟩ : ∃ L, L = (dig H a).length := ⟨_, rfl⟩
  have HL := hid hL
  have hLm : m + 2 ≤ L := by omega
  have hL2 : L ≤ 2199023255552 := by omega
  have Hm := hid hm
  unfold maxLen at b2
  unfold H at t0
  have hm2 : (dig H b).length = m + 2 := hm
  rw [hm2]
  rw [hm2] at b1
  clear hup0 hup1 hlz' hlz va hdd hb1 hcell b4 b3 hm hm2 hL ht hs1 hs2 h0 h1 hab hlen tpos sa sb
  go_enter Try.func76, Try.ntmps76
  go_wp2_with fail
  refine Hlz.out.mono ?_
  rintro e w' ⟨rfl, rfl⟩
  go_wp2_with fail
  refine Hup1.out.mono ?_
  rintro e w1 ⟨X1, t1, hX1, sX1, vX1, ht1, v1, rfl, ho1, hb1⟩
  have hst := strip_length (X1 ++ [t1])
  have hsd : strip (X1 ++ [t1]) = dig H (b * 2 ^ s) := by rw [strip_dig H2 sX1, vX1, val_dig H2]
  have htr := htrim_val _ _ w1 ho1.at
  obtain ⟨q1, k1, rfl, -⟩ := id ho1.at
  have ho1' := ho1.take (strip (X1 ++ [t1])).length hst
  rw [← strip_is_take, hsd] at ho1'
  rw [hsd, show (dig H (b * 2 ^ s)).length = m + 2 from Hdd.out.1] at htr
  rw [show (dig H (b * 2 ^ s)).length = m + 2 from Hdd.out.1] at ho1'
  have Htr := hid htr
  clear hst hsd htr ho1 vX1 sX1 hX1 ht1
  simp only [cutTo] at Htr
  generalize (X1 ++ [t1]).length = n1 at *
  go_wp2_with fail
  refine Htr.out.mono ?_
  rintro e wt ⟨rfl, rfl⟩
  go_wp2_with fail
  refine (Hup0.out _ (A0.out.below hb1)).mono ?_
  rintro e w2 ⟨X2, t2, hX2, sX2, vX2, ht2, v2, rfl, ho2, hb2⟩
  have sh7 := ho1'.shape (by rw [Hdd.out.1]; omega)
  obtain ⟨g7, cap7, e7, hB7, hl7, hc7, hc7'⟩ := sh7
  injection e7 with e71 e72 e73
  subst e71
  subst e73
  have sh8 := ho2.shape (by simp)
  obtain ⟨g8, cap8, e8, hB8, hl8, hc8, hc8'⟩ := sh8
  subst e8
  obtain ⟨K, hK⟩ : ∃ K, L = K + (m + 1) := ⟨L - (m + 1), by omega⟩
  have hN : (X2 ++ [t2]).length = K + m + 2 := by rw [List.length_append, hX2, ← HL.out, hK]; simp; omega
  rw [hN] at hc8 ho2 ⊢
  rw [Hdd.out.1] at hc7
  have hXK : X2.length = K + (m + 1) := by rw [hX2, ← HL.out, hK]
  have start := hid (up_rest (b := b) sX2 ht2 hXK Hb1.out)
  rw [Hva.out] at vX2
  have HvX := hid vX2
  have HN := hid hN
  have hK1 : 1 ≤ K := by omega
  have hKl : K ≤ 2199023255552 := by omega
  have hml : m ≤ 2199023255552 := by omega
  have hKm : K + m + 2 ≤ 4398046511104 := by omega
  have bel2 := hid (Below.go hb2 hb1)
  have o7 := hid (ho1'.kept hb2)
  have hg78 : g7 ≠ g8 := by omega
  have hg7w : g7 < w2.heap.size := by have := hb2.size; omega
  have hg7 : w.heap.size ≤ g7 := hB7
  have hg8 : w.heap.size ≤ g8 := Nat.le_trans hb1.size hB8
  have z2 : g8 < w2.heap.size := hl8
  unfold maxLen at hc7' hc8'
  clear e72 ho1' Hlz Hup0 Hup1 Htr A0 hX2 vX2 hN hXK hK hLm hL2 HL hB7 hB8 hb1 hb2 hl7 hl8 e0 t0 ht2
  generalize X2 ++ [t2] = R0 at *
  go_wp2_with (first
    | (at_make; refine wpList_full_at rfl _ _ 75 rfl elemHalves w2.heap.size _ _ _ _ K rfl rfl (by first | rfl | omega | (simp; done)) (by first | rfl | omega | (simp; done)) (by omega) (by simp [maxLen]; omega) (Nat.le_refl _) ?_; intro vo w3 ho3 hb3 hs3 hvo; subst hvo))
  have o8 := ho2.kept hb3
  have o7' := hid (o7.out.kept hb3)
  have bel3 : Below w.heap.size w w3 := Below.go hb3 bel2.out
  have zq : w2.heap.size < w3.heap.size := by
    rcases ho3.2 with ⟨h, _⟩ | ⟨g, cp, cur, h, _, hh, _⟩
    · injection h with h _ _; cases h
    · injection h with h _ _
      injection h with h
      injection h with h
      subst h
      exact (Array.getElem?_eq_some_iff.1 hh).1
  have hvs : a * 2 ^ s = val H R0 + b * 2 ^ s * H ^ K * val H ((List.replicate K 0).drop K) := by rw [HvX.out]; simp [val]
  have Hvs := hid hvs
  have hD := lt_pow_sz H2 (b * 2 ^ s)
  rw [show sz H (b * 2 ^ s) = m + 2 from Hdd.out.1] at hD
  have HD := hid hD
  obtain ⟨D, hDd⟩ : ∃ D, D = b * 2 ^ s := ⟨_, rfl⟩
  have HDd := hid hDd
  have sD := small_dig H2 (b * 2 ^ s)
  rw [← hDd] at Hvs HD Hdd sD start o7'
  have vD : val H (dig H D) = D := val_dig H2 D
  have HvD := hid vD
  clear hvs hD hDd vD hb3 ho2 o7 bel2 HvX
  have hgq : w2.heap.size ≠ g8 := by omega
  have hgq7 : w2.heap.size ≠ g7 := by omega
  go_loopw [10] (fun i wr => ∃ (k : Nat) (R Z : List Nat), k ≤ K ∧ i = .int .i64 ((k : Int) - 1) ∧ Own wr wt.heap.size 90 .u32 (.slice (some ⟨g8, 0, none⟩) (K + m + 2) cap8) R ∧ Hid (R.length = K + m + 2) ∧ Small H R ∧
      Own wr w2.heap.size 90 .u32 (.slice (some ⟨w2.heap.size, 0, none⟩) K K) Z ∧ Hid (Z.length = K) ∧ Small H Z ∧ Own wr w.heap.size 90 .u32 (.slice (some ⟨g7, 0, none⟩) (m + 2) k1) (dig H D) ∧
      Hid (val H (R.drop k) < D) ∧ Hid (a * 2 ^ s = val H R + D * H ^ k * val H (Z.drop k)) ∧ Below w.heap.size w wr) (fun i _ => (intOf i + 1).toNat)
  case atStart => exact ⟨K, R0, List.replicate K 0, Nat.le_refl _, by go_num, o8, HN.out, sX2, ho3, by simp [Hid], small_zeros (by decide) _, o7'.out, start.out, Hvs.out, bel3⟩
  case round =>
    obtain ⟨k, R, Z, hk, rfl, o8', hR, sR, oq, hZ, sZ, o7'', hlt, hv, hbel⟩ := hrel
    by_cases hk0 : 0 < k
    · obtain ⟨k, rfl⟩ : ∃ k', k = k' + 1 := ⟨k - 1, by omega⟩
      have hMl : m + 2 ≤ k1 := hc7
      have hwin : Win wr g7 0 (dig H D) := fun j hj => by
        have := (o7''.cell j hj).1
        rw [Nat.zero_add]; exact this
      have hL := long_lt sR HD.out (by rw [hR.out]; omega) hlt.out
      have hqlt : val H ((R.drop k).take (m + 2 + 1)) / D < H := by
        rw [Nat.div_lt_iff_lt_mul (by have := hlt.out; omega), Nat.mul_comm]; exact hL
      have htk := takeOff_any wt.heap.size g8 (K + m + 2) cap8 k m (cap8 - k) g7 0 k1 R _ (dig H D) wr o8' hR.out (by omega) rfl Hdd.out.1 hwin hg78 sR sD (Hdd.out.2 _) (by rw [HvD.out]; exact hL) (by omega) hMl hc7'
      have Htk := hid htk; have Hql := hid hqlt
      clear htk hwin hL hqlt
      go_wp2_with fail
      rw [show k + (m + 2) + 1 - k = m + 2 + 1 by omega]
      refine Htk.out.mono ?_
      rintro e w4 ⟨X, hX, sX, rfl, hXv, o84, hgr⟩
      rw [HvD.out] at hXv ⊢
      have hst := long_step (k := k) (Z := Z) sR HD.out (by rw [hR.out]; omega) (by rw [hZ.out]; omega) hlt.out hv.out hX hXv
      have oq4 := oq.other hgr (by intro g hg; simp [Value.ownBlock] at hg; subst hg; simp; omega)
      have o74 := o7''.other hgr (by intro g hg; simp [Value.ownBlock] at hg; subst hg; simp; omega)
      obtain ⟨q, hq⟩ : ∃ q, q = val H ((R.drop k).take (m + 2 + 1)) / D := ⟨_, rfl⟩
      rw [← hq] at hst Hql ⊢
      obtain ⟨-, hst2, hst3⟩ := hst
      have Hst2 := hid hst2; have Hst3 := hid hst3; have HX := hid hX; have Hq := hid hq
      have hkZ : k < Z.length := by rw [hZ.out]; omega
      have cq := oq4.cell k hkZ
      obtain ⟨cq0, cq1⟩ := cq
      generalize Z[k] = zk at cq0
      have oqs := oq4.set k q
      have o85 := o84.other oqs.2 (by intro g hg; simp [Value.ownBlock] at hg; subst hg; simp; omega)
      have o75 := o74.other oqs.2 (by intro g hg; simp [Value.ownBlock] at hg; subst hg; simp; omega)
      have hR' : (R.take k ++ X ++ R.drop (k + (m + 2) + 1)).length = K + m + 2 := by have := hR.out; simp; omega
      have sR' : Small H (R.take k ++ X ++ R.drop (k + (m + 2) + 1)) := small_append (small_append (small_take sR _) sX) (small_drop sR _)
      have bel5 : Below w.heap.size w (w4.setCell ⟨w2.heap.size, k, none⟩ (.int .u32 (q : Nat))) :=
        (hbel.grown hgr hbel.size (by intro g hg; injection hg with hg; omega)).setCell (p := ⟨w2.heap.size, k, none⟩) (by show w.heap.size ≤ w2.heap.size; omega) _
      have HR' := hid hR'
      clear hst2 hst3 hX hq hXv hgr hR' hkZ oq4 o74 o84 oq o7'' o8' hbel
      go_wp2_with fail
      go_roundw
      case rel => exact ⟨k, _, Z.set k q, by omega, by go_num, o85, HR'.out, sR', oqs.1, by have := hZ.out; simp [Hid, this], small_set sZ _ Hql.out, o75, Hst2.out, Hst3.out, bel5⟩
      case measure => (simp [intOf] <;> omega)
    · obtain rfl : k = 0 := by omega
      have hend := long_end (r := val H R) (q := val H Z) (a := a) (b := b) (s := s) (by have := hv.out; rw [HDd.out] at this; simpa using this) (by have := hlt.out; rw [HDd.out] at this; simpa using this)
      obtain ⟨he1, he2⟩ := hend
      have htz := htrim_val _ Z wr oq.at
      have hsZ : strip Z = dig H (a / b) := by rw [strip_dig H2 sZ, he1]
      have oqt := (oq.take (strip Z).length (strip_length Z)).at
      rw [← strip_is_take] at oqt
      rw [hsZ] at htz oqt
      have hsd := shiftDown_any _ R s wr o8'.at sR hs31 (by rw [hR.out]; omega)
      rw [he2] at hsd
      have Htz := hid htz; have Hsd := hid hsd
      clear htz hsd hsZ he1 he2 hv hlt o7'' o8' oq
      simp only [cutTo] at Htz
      go_wp2_with fail
      refine Htz.out.mono ?_
      rintro e w' ⟨rfl, rfl⟩
      go_wp2_with fail
      refine Hsd.out.mono ?_
      rintro e w6 ⟨v6, rfl, ho6, hb6⟩
      go_wp2_with fail
      go_ret2
      exact ⟨_, _, rfl, oqt.below hb6, ho6.at, Below.go hb6 hbel⟩
end Go.Proofs.Ytlijekppbpefaaa
/- whole.Div, given what whole.divide answers. -/
namespace Go.Proofs.Ytlijekppbpefaaa
open Go.RowKit Big

def RDiv (q r : Int) (c : Int) (w : World) (e : Ending) (w' : World) : Prop := ∃ v v', e = .returned (.tuple #[v, v', .int .i64 c]) ∧ IntAt w' v q ∧ IntAt w' v' r ∧ Below w.heap.size w w'

theorem Pair.other {w : World} {g g' : Nat} {t : TypeId} (h : Pair w g t) (hne : g ≠ g') (j : Nat) (u : Value) : Pair (w.setCell ⟨g', j, none⟩ u) g t := by
  obtain ⟨x, p, n, c, hh⟩ := h
  exact ⟨x, p, n, c, (Below.heap_setCell w ⟨g', j, none⟩ u g hne).trans hh⟩
theorem cutTo_slice (p : Option Addr) (n c m : Nat) : cutTo (.slice p n c) m = .slice p m c := rfl
theorem sg_bne (n0 n1 : Bool) (x : Nat) : sg (n0 != n1) x = if n1 then -sg n0 x else sg n0 x := by unfold sg; cases n0 <;> cases n1 <;> simp
theorem div_pos_case {x y : Nat} (n1 : Bool) (_ : 0 < y) : (x : Int) / sg n1 y = sg (false != n1) (x / y) ∧ (x : Int) % sg n1 y = ((x % y : Nat) : Int) := by
  cases n1
  · simp [sg]
  · simp [sg, Int.ediv_neg, Int.emod_neg]
theorem div_neg_even {x y : Nat} (n1 : Bool) (hy : 0 < y) (h : x % y = 0) : (-(x : Int)) / sg n1 y = sg (true != n1) (x / y) ∧ (-(x : Int)) % sg n1 y = 0 := by
  have e : x = y * (x / y) := by have := Nat.div_add_mod x y; omega
  have key : (-(x : Int)) / (y : Int) = -((x / y : Nat) : Int) ∧ (-(x : Int)) % (y : Int) = 0 := by
    refine (Int.ediv_emod_unique (by omega)).2 ⟨?_, by omega, by omega⟩
    have : (x : Int) = (y : Int) * ((x / y : Nat) : Int) := by rw [← Int.natCast_mul, ← e]
    rw [Int.mul_neg, ← this]; omega
  cases n1
  · simpa [sg] using key
  · simp only [sg, if_true, Int.ediv_neg, Int.emod_neg, key.1, key.2]; simp
theorem div_neg_odd {x y : Nat} (n1 : Bool) (hy : 0 < y) (h : 0 < x % y) : (-(x : Int)) / sg n1 y = sg (true != n1) (x / y + 1) ∧ (-(x : Int)) % sg n1 y = ((y - x % y : Nat) : Int) := by
  have hlt := Nat.mod_lt x hy
  have e : (x : Int) = (y : Int) * ((x / y : Nat) : Int) + ((x % y : Nat) : Int) := by
    rw [← Int.natCast_mul, ← Int.natCast_add, Nat.div_add_mod]
  have key : (-(x : Int)) / (y : Int) = -((x / y + 1 : Nat) : Int) ∧ (-(x : Int)) % (y : Int) = ((y - x % y : Nat) : Int) := by
    refine (Int.ediv_emod_unique (by omega)).2 ⟨?_, by omega, by omega⟩
    rw [e]
    generalize x / y = q at *
    generalize x % y = r at *
    have : ((y - r : Nat) : Int) = (y : Int) - (r : Int) := by omega
    rw [this]
    push_cast
    grind
  cases n1
  · simpa [sg] using key
  · simp only [sg, if_true, Int.ediv_neg, Int.emod_neg, key.1, key.2]; simp

set_option maxRecDepth 100000 in
set_option maxHeartbeats 3200000 in
theorem Div_of (v0 v1 : Value) (a b : Int) (w : World) (h0 : RawAt w v0 a) (h1 : RawAt w v1 b) (hb0 : b ≠ 0)
    (hdiv : ∀ W' u u', At W' .u64 u (dig W a.natAbs) → At W' .u64 u' (dig W b.natAbs) → Calls Try.prog 42 #[u, u'] W' (RTwo (a.natAbs / b.natAbs) (a.natAbs % b.natAbs) W')) :
    Calls Try.prog 24 #[v0, v1] w (RDiv (a / b) (a % b) 0 w) := by
  obtain ⟨n0, s0, l0, rfl, a0, b0, c0, rfl⟩ := h0
  obtain ⟨n1, s1, l1, rfl, a1, b1, c1, rfl⟩ := h1
  rw [sg_natAbs, sg_natAbs] at hdiv
  have t0 : ∀ W : World, At W .u64 s0 l0 → Calls Try.prog 41 #[s0] W (fun e w' => e = .returned (cutTo s0 (strip l0).length) ∧ w' = W) := fun W h => trim_val s0 l0 W h
  have t1 : ∀ W : World, At W .u64 s1 l1 → Calls Try.prog 41 #[s1] W (fun e w' => e = .returned (cutTo s1 (strip l1).length) ∧ w' = W) := fun W h => trim_val s1 l1 W h
  have T0 := hid t0; have T1 := hid t1; have HD := hid hdiv
  have d0 := hid (strip_dig W2 b0)
  have d1 := hid (strip_dig W2 b1)
  have m0 : sz W (val W l0) ≤ 1099511627776 := Nat.le_trans (sz_val W2 b0) c0
  have m1 : sz W (val W l1) ≤ 1099511627776 := Nat.le_trans (sz_val W2 b1) c1
  obtain ⟨Q, hQ⟩ : ∃ Q, Q = sg n0 (val W l0) / sg n1 (val W l1) := ⟨_, rfl⟩
  obtain ⟨R, hR⟩ : ∃ R, R = sg n0 (val W l0) % sg n1 (val W l1) := ⟨_, rfl⟩
  rw [← hQ, ← hR]
  have HQ := hid hQ; have HR := hid hR
  have hy : 0 < val W l1 := Nat.pos_of_ne_zero fun e => hb0 (by rw [e, sg_zero])
  clear t0 t1 hdiv hQ hR hb0
  obtain ⟨p1, k1, rfl, -⟩ := id a1
  go_enter Try.func24, Try.ntmps24
  go_wp2_with fail
  go_quiet ((first
    | (go_at_call_of 41 (s0); exact Calls.quiet_of_same (T0.out _ (by repeat (first | exact a0 | apply At.drewN | apply At.drew | apply At.alloc))))
    | (go_at_call 41; exact Calls.quiet_of_same (T1.out _ (by repeat (first | exact a1 | apply At.drewN | apply At.drew | apply At.alloc))))))
  generalize hW : World.drewN (World.alloc (World.alloc (World.alloc (World.alloc w _) _) _) _) _ = W3
  have bw : Below w.heap.size w W3 := by rw [← hW]; exact below_drewN ((((below1 _ _).alloc (by simp) _).alloc (by simp; omega) _).alloc (by simp; omega) _) _
  have hp : Pair W3 (w.heap.size + 1 + 1) 25 := by rw [← hW]; exact Pair.below (Pair.new2 ..) (below_drewN (below1 _ _) _)
  have hp' : Pair W3 (w.heap.size + 1 + 1 + 1) 25 := by rw [← hW]; exact Pair.new3 ..
  have tw : Two W3 w.heap.size (.bool n0) s0 (.bool n1) (.slice p1 l1.length k1) := by
    rw [← hW]; exact (Two.new w _ _ _ _ _).below (below_drewN ((below1 _ _).alloc (by simp) _) _)
  have z3 : w.heap.size + 4 ≤ W3.heap.size := by rw [← hW]; simp
  have A0 : At W3 .u64 (cutTo s0 (strip l0).length) (dig W (val W l0)) := by have := (a0.below bw).strip; rwa [d0.out] at this ⊢
  have A1 : At W3 .u64 (cutTo (.slice p1 l1.length k1) (strip l1).length) (dig W (val W l1)) := by have := (a1.below bw).strip; rwa [d1.out] at this ⊢
  have bw' := hid bw
  have hlen : ((strip l1).length : Nat) ≠ 0 := by rw [d1.out]; exact fun e => by have := (sz_eq_zero W2).1 (show sz W _ = 0 from e); omega
  have hlb : (((strip l1).length : Int) == 0) = false := beq_eq_false_iff_ne.2 (by omega)
  simp only [cutTo_slice] at A1 ⊢
  generalize cutTo s0 (strip l0).length = u0 at *
  generalize (strip l1).length = len1 at *
  generalize val W l0 = x at *
  generalize val W l1 = y at *
  clear hW bw T0 T1 a0 a1 d0 d1 b0 b1 c0 c1 hlen
  go_wp2_with fail
  refine (HD.out W3 _ _ A0 A1).mono ?_
  rintro e W4 ⟨q, r, rfl, hq, hr, hb4⟩
  have tw4 := tw.below hb4
  have hp4 := hp.below hb4
  have hp4' := hp'.below hb4
  have A1' := A1.below hb4
  have bw4 := hid (bw'.out.trans (hb4.mono (B' := w.heap.size) (by omega)))
  have z4 : w.heap.size + 4 ≤ W4.heap.size := Nat.le_trans z3 hb4.size
  clear HD A0 A1 tw hp hp' hb4 bw' z3
  have hsq : sz W (x / y) ≤ 1099511627776 := Nat.le_trans (sz_mono W2 (Nat.div_le_self x y)) m0
  obtain ⟨pr, cr, rfl, -⟩ := id hr
  cases n0
  · obtain ⟨c00, -, c10, -, -⟩ := id tw4
    have EQ : Q = sg n1 (x / y) := by rw [HQ.out]; have := (div_pos_case (x := x) n1 hy).1; simpa [sg] using this
    have ER : R = sg false (x % y) := by rw [HR.out]; have := (div_pos_case (x := x) n1 hy).2; simpa [sg] using this
    have HEQ := hid EQ; have HER := hid ER
    clear EQ ER HQ HR
    go_wp2_with fail
    refine (told_any n1 _ (x / y) _ hq).mono ?_
    rintro e W6 ⟨v6, rfl, hi6, hb6⟩
    have hr6 := hr.below hb6
    have z6 : w.heap.size + 4 ≤ W6.heap.size := Nat.le_trans z4 hb6.size
    go_wp2_with fail
    refine (told_any false _ (x % y) _ hr6).mono ?_
    rintro e W7 ⟨v7, rfl, hi7, hb7⟩
    obtain ⟨p6, n6, c6, rfl, hi6'⟩ := (hi6.below hb7).shape
    obtain ⟨p7, n7, c7, rfl, hi7'⟩ := hi7.shape
    have hpA := (hp4.below hb6).below hb7
    have hpB := (hp4'.below hb6).below hb7
    obtain ⟨_, _, q0, q1, q2, q3⟩ := hpA.cells
    obtain ⟨_, _, r0, r1, r2, r3⟩ := hpB.cells
    have bw7 : Below w.heap.size w W7 := (bw4.out.trans (hb6.mono (B' := w.heap.size) (by omega))).trans (hb7.mono (B' := w.heap.size) (by omega))
    have Hi6 := hid hi6'; have Hi7 := hid hi7'
    clear hi6' hi7' hi6 hi7 hb6 hb7 hr6 tw4 hp4 hp4' hq hr
    go_wp2
    have hpB' := (hpB.other (g' := w.heap.size + 1 + 1) (by omega) 0 (.bool (decide (sg n1 (x / y) < 0)))).other (g' := w.heap.size + 1 + 1) (by omega) 1 (.slice p6 n6 c6)
    exact bodyPost_ret (v := .tuple #[.agg #[.bool (decide (sg n1 (x / y) < 0)), .slice p6 n6 c6], .agg #[.bool (decide (sg false (x % y) < 0)), .slice p7 n7 c7], .int .i64 0])
      (by simp [results, Try.results24, go_sem, q0, q1, r0, r1]) rfl
      ⟨_, _, rfl, by rw [HEQ.out]; exact (Hi6.out.stored hpA _ _ _ _).stored hpB' _ _ _ _, by rw [HER.out]; exact (Hi7.out.stored hpA _ _ _ _).stored hpB' _ _ _ _,
        Below.stored (Below.stored bw7 (by omega) _ _) (by omega) _ _⟩
  · obtain ⟨c00, -, c10, -, -⟩ := id tw4
    by_cases hr0 : x % y = 0
    · have EQ : Q = sg (!n1) (x / y) := by rw [HQ.out]; have := (div_neg_even n1 hy hr0).1; simpa [sg] using this
      have ER : R = sg false (x % y) := by rw [HR.out, hr0]; have := (div_neg_even n1 hy hr0).2; simpa [sg] using this
      have HEQ := hid EQ; have HER := hid ER
      have hl0 : (dig W (x % y)).length = 0 := by rw [hr0]; rfl
      rw [hl0] at hr ⊢
      clear EQ ER HQ HR hl0 hr0
      go_wp2_with fail
      refine (told_any (!n1) _ (x / y) _ hq).mono ?_
      rintro e W6 ⟨v6, rfl, hi6, hb6⟩
      have hr6 := hr.below hb6
      have z6 : w.heap.size + 4 ≤ W6.heap.size := Nat.le_trans z4 hb6.size
      go_wp2_with fail
      refine (told_any false _ (x % y) _ hr6).mono ?_
      rintro e W7 ⟨v7, rfl, hi7, hb7⟩
      obtain ⟨p6, n6, c6, rfl, hi6'⟩ := (hi6.below hb7).shape
      obtain ⟨p7, n7, c7, rfl, hi7'⟩ := hi7.shape
      have hpA := (hp4.below hb6).below hb7
      have hpB := (hp4'.below hb6).below hb7
      obtain ⟨_, _, q0, q1, q2, q3⟩ := hpA.cells
      obtain ⟨_, _, r0, r1, r2, r3⟩ := hpB.cells
      have bw7 : Below w.heap.size w W7 := (bw4.out.trans (hb6.mono (B' := w.heap.size) (by omega))).trans (hb7.mono (B' := w.heap.size) (by omega))
      have Hi6 := hid hi6'; have Hi7 := hid hi7'
      clear hi6' hi7' hi6 hi7 hb6 hb7 hr6 tw4 hp4 hp4' hq hr
      go_wp2
      have hpB' := (hpB.other (g' := w.heap.size + 1 + 1) (by omega) 0 (.bool (decide (sg (!n1) (x / y) < 0)))).other (g' := w.heap.size + 1 + 1) (by omega) 1 (.slice p6 n6 c6)
      exact bodyPost_ret (v := .tuple #[.agg #[.bool (decide (sg (!n1) (x / y) < 0)), .slice p6 n6 c6], .agg #[.bool (decide (sg false (x % y) < 0)), .slice p7 n7 c7], .int .i64 0])
        (by simp [results, Try.results24, go_sem, q0, q1, r0, r1]) rfl
        ⟨_, _, rfl, by rw [HEQ.out]; exact (Hi6.out.stored hpA _ _ _ _).stored hpB' _ _ _ _, by rw [HER.out]; exact (Hi7.out.stored hpA _ _ _ _).stored hpB' _ _ _ _,
          Below.stored (Below.stored bw7 (by omega) _ _) (by omega) _ _⟩
    · have EQ : Q = sg (!n1) (x / y + 1) := by rw [HQ.out]; have := (div_neg_odd n1 hy (Nat.pos_of_ne_zero hr0)).1; simpa [sg] using this
      have ER : R = sg false (y - x % y) := by rw [HR.out]; have := (div_neg_odd n1 hy (Nat.pos_of_ne_zero hr0)).2; simpa [sg] using this
      have HEQ := hid EQ; have HER := hid ER
      have hl0 : 0 < (dig W (x % y)).length := Nat.pos_of_ne_zero fun e => hr0 ((sz_eq_zero W2).1 e)
      have hd1 : dig W 1 = [1] := dig_one W2 (by decide) (by decide)
      have hlt := Nat.mod_lt x hy
      have HR' := hid hr
      have hpl : ∀ W', Calls Try.prog 43 #[q, .slice (some ⟨World.heap W' |>.size, 0, none⟩) 1 1] (W'.alloc (.cells #[.int .u64 1] 43)) (ROwn 43 .u64 (dig W (x / y + 1)) (W'.alloc (.cells #[.int .u64 1] 43))) ∨ ¬ At W' .u64 q (dig W (x / y)) := fun W' => by
        by_cases h : At W' .u64 q (dig W (x / y))
        · left
          exact plus_any q _ (x / y) 1 _ (h.alloc _) (by rw [hd1]; exact At.oneI W' .u64 1 1 _ rfl) hsq (by rw [show sz W 1 = 1 by unfold sz; rw [hd1]; rfl]; omega)
        · right; exact h
      have Hpl : Hid (Calls Try.prog 43 #[q, .slice (some ⟨World.heap W4 |>.size, 0, none⟩) 1 1] (W4.alloc (.cells #[.int .u64 1] 43)) (ROwn 43 .u64 (dig W (x / y + 1)) (W4.alloc (.cells #[.int .u64 1] 43)))) := (hpl W4).resolve_right (fun h => h hq)
      clear EQ ER HQ HR hpl hd1
      generalize (dig W (x % y)).length = lr at *
      go_wp2_with fail
      refine Hpl.out.mono ?_
      rintro e W5 ⟨q5, rfl, ho5, hb5⟩
      have b45 : Below W4.heap.size W4 W5 := (below1 _ _).trans (hb5.mono (B' := W4.heap.size) (by simp))
      have tw5 := tw4.below b45
      have z5 : w.heap.size + 4 ≤ W5.heap.size := Nat.le_trans z4 b45.size
      clear hb5 c00 c10
      go_wp2_with fail
      refine (minus_any _ _ y (x % y) _ (A1'.below b45) (HR'.out.below b45) (Nat.le_of_lt hlt) m1).mono ?_
      rintro e W5' ⟨r5, rfl, hr5, hb5'⟩
      have hq5 := ho5.at.below hb5'
      obtain ⟨c00, -, c10, -, z5'⟩ := tw5.below hb5'
      have hp5 := (hp4.below b45).below hb5'
      have hp5' := (hp4'.below b45).below hb5'
      have bw5 := hid ((bw4.out.trans (b45.mono (B' := w.heap.size) (by omega))).trans (hb5'.mono (B' := w.heap.size) (by omega)))
      have z55 : w.heap.size + 4 ≤ W5'.heap.size := Nat.le_trans z5 hb5'.size
      clear ho5 b45 tw5 hb5' A1' HR'
      go_wp2_with fail
      refine (told_any (!n1) _ (x / y + 1) _ hq5).mono ?_
      rintro e W6 ⟨v6, rfl, hi6, hb6⟩
      have hr6 := hr5.below hb6
      have z6 : w.heap.size + 4 ≤ W6.heap.size := Nat.le_trans z55 hb6.size
      go_wp2_with fail
      refine (told_any false _ (y - x % y) _ hr6).mono ?_
      rintro e W7 ⟨v7, rfl, hi7, hb7⟩
      obtain ⟨p6, n6, c6, rfl, hi6'⟩ := (hi6.below hb7).shape
      obtain ⟨p7, n7, c7, rfl, hi7'⟩ := hi7.shape
      have hpA := (hp5.below hb6).below hb7
      have hpB := (hp5'.below hb6).below hb7
      obtain ⟨_, _, q0, q1, q2, q3⟩ := hpA.cells
      obtain ⟨_, _, r0, r1, r2, r3⟩ := hpB.cells
      have bw7 : Below w.heap.size w W7 := (bw5.out.trans (hb6.mono (B' := w.heap.size) (by omega))).trans (hb7.mono (B' := w.heap.size) (by omega))
      have Hi6 := hid hi6'; have Hi7 := hid hi7'
      clear hi6' hi7' hi6 hi7 hb6 hb7 hr6 tw4 hp4 hp4' hq hr
      go_wp2
      have hpB' := (hpB.other (g' := w.heap.size + 1 + 1) (by omega) 0 (.bool (decide (sg (!n1) (x / y + 1) < 0)))).other (g' := w.heap.size + 1 + 1) (by omega) 1 (.slice p6 n6 c6)
      exact bodyPost_ret (v := .tuple #[.agg #[.bool (decide (sg (!n1) (x / y + 1) < 0)), .slice p6 n6 c6], .agg #[.bool (decide (sg false (y - x % y) < 0)), .slice p7 n7 c7], .int .i64 0])
        (by simp [results, Try.results24, go_sem, q0, q1, r0, r1]) rfl
        ⟨_, _, rfl, by rw [HEQ.out]; exact (Hi6.out.stored hpA _ _ _ _).stored hpB' _ _ _ _, by rw [HER.out]; exact (Hi7.out.stored hpA _ _ _ _).stored hpB' _ _ _ _,
          Below.stored (Below.stored bw7 (by omega) _ _) (by omega) _ _⟩
end Go.Proofs.Ytlijekppbpefaaa
/- whole.divideHalves, whole.divide, whole.Div. -/
namespace Go.Proofs.Ytlijekppbpefaaa
open Go.RowKit Big

set_option maxRecDepth 100000 in
set_option maxHeartbeats 3200000 in
theorem divideHalves_any (v0 v1 : Value) (a b : Nat) (w : World) (h0 : At w .u32 v0 (dig H a)) (h1 : At w .u32 v1 (dig H b)) (hb : 0 < b) (hlen : (dig H a).length ≤ 2199023255552) (hlen' : (dig H b).length ≤ 2199023255552) :
    Calls Try.prog 58 #[v0, v1] w (RQuo (a / b) (a % b) w) := by
  have H0 := hid h0; have H1 := hid h1
  by_cases hlt : (dig H a).length < (dig H b).length
  · have hab : a < b := lt_of_sz_lt H2 hlt
    have e1 : a / b = 0 := Nat.div_eq_of_lt hab
    have e2 : a % b = a := Nat.mod_eq_of_lt hab
    rw [e1, e2]
    obtain ⟨p0, c0, rfl, -⟩ := h0
    obtain ⟨p1, c1, rfl, -⟩ := h1
    obtain ⟨la, hla⟩ : ∃ n, n = (dig H a).length := ⟨_, rfl⟩
    obtain ⟨lb, hlb⟩ : ∃ n, n = (dig H b).length := ⟨_, rfl⟩
    have Hla := hid hla
    rw [← hla, ← hlb] at hlt
    rw [← hla] at hlen ⊢
    rw [← hlb] at hlen' ⊢
    rw [← hla] at H0
    clear hla hlb e1 e2 hab H1
    go_enter Try.func58, Try.ntmps58
    go_wp2_with (at_builtin; refine wpList_append_at rfl _ _ 75 rfl elemHalves w.heap.size _ [] rfl (Own.nil ..) _ (dig H a) rfl H0.out (by rw [← Hla.out]; simp [maxLen]; omega) (by rw [← Hla.out]; simp; omega) (Nat.le_refl _) ?_; intro v2 w2 ho2 hb2 hs2)
    go_ret2
    exact ⟨_, _, rfl, by exact At.nil _ _, ho2.at, hb2⟩
  · by_cases hl1 : (dig H b).length = 1
    · have hbH : b < H := by
        have := lt_pow_sz H2 b
        rwa [show sz H b = 1 from hl1, Nat.pow_one] at this
      have hd1 := dig_one H2 hb hbH
      obtain ⟨p1, c1, rfl, b1, b2, b3, b4⟩ := id h1
      obtain ⟨bb, off, rfl, hbb, hcell⟩ := b4 (by omega)
      have hc := hcell 0 (by omega)
      simp only [hd1, List.getElem_cons_zero, Nat.add_zero] at hc
      obtain ⟨p0, c0, rfl, -⟩ := id h0
      obtain ⟨la, hla⟩ : ∃ n, n = (dig H a).length := ⟨_, rfl⟩
      have Hla := hid hla
      rw [← hla] at hlen hlt H0 ⊢
      rw [hl1] at hlt b1 ⊢
      have hsh := fun (W' : World) (v : Value) (hv : Own W' w.heap.size 90 .u32 v (dig H a)) => divideShort_any w.heap.size v (dig H a) b W' hv (small_dig H2 a) hb hbH
      rw [val_dig H2] at hsh
      have Hsh := hid hsh
      unfold maxLen at b2
      clear hla hsh hd1 hcell b4 b3 hl1 h0 h1 H1
      go_enter Try.func58, Try.ntmps58
      go_wp2_with fail
      go_region_held3 (fun w' => w'.cell? ⟨bb, off, none⟩ = some (.int .u32 (b : Nat)))
        (first | assumption | (simp; assumption) | (exact (hb2.cell (p := ⟨bb, off, none⟩) hbb).trans hc) | (exact hcell3))
        (first
          | (refine step_append_at (by rfl) _ _ 75 (by rfl) elemHalves w.heap.size _ [] (by rfl) (Own.nil ..) _ (dig H a) (by rfl) H0.out.drew (by rw [← Hla.out]; simp [maxLen]; omega) (by rw [← Hla.out]; simp; omega) (Nat.le_refl _) ?_; intro v2 w2 ho2 hb2 hs2)
          | (go_at_call 74; refine (Hsh.out _ _ ho2).mono ?_; rintro e w3 ⟨rfl, ho3, hg3⟩; have hcell3 : w3.cell? ⟨bb, off, none⟩ = some (.int .u32 (b : Nat)) := (World.cell?_of_block (w := w2) (hg3.block bb (Nat.lt_of_lt_of_le hbb hb2.size) (fun e => by have := ho2.row bb e.symm; omega))).trans ((hb2.cell (p := ⟨bb, off, none⟩) hbb).trans hc)))
      have hr : a % b < 4294967296 := Nat.lt_trans (Nat.mod_lt _ hb) hbH
      have er : (a : Int) % (b : Int) = ((a % b : Nat) : Int) := (Int.natCast_emod a b).symm
      rw [er]
      have hq := ho3.at
      have bel3 : Below w.heap.size w w3 := (((Below.refl _ w).drew.trans hb2).grown hg3 hb2.size ho2.row)
      obtain ⟨r, hrd⟩ : ∃ r, r = a % b := ⟨_, rfl⟩
      rw [← hrd] at hr ⊢
      have Hrd := hid hrd
      have hstr : strip [r] = dig H r := by
        have h1 : Small H [r] := small_cons hr (small_nil _)
        have := strip_dig H2 h1
        simpa [val] using this
      have hat := At.one w3 .u32 r 90
      have htr := htrim_val _ _ _ hat
      have hat' := hat.cut (strip [r]).length (strip_length _)
      rw [← strip_is_take, hstr] at hat'
      rw [hstr] at htr
      have Htr := hid htr; have Hat := hid hat'; have Bel := hid bel3; have HQ := hid hq
      clear htr hstr hat hat' hrd er bel3 hq ho3 hg3 ho2 Hsh
      generalize cutTo v2 (sz H (a / b)) = vq at *
      go_wp2_with fail
      refine Htr.out.mono ?_
      rintro e w' ⟨rfl, rfl⟩
      go_wp2_with fail
      go_ret2
      exact ⟨_, _, rfl, HQ.out.alloc _, by rw [← Hrd.out]; exact Hat.out, Below.go (below1 _ _) Bel.out⟩
    · have hl0 : (dig H b).length ≠ 0 := fun e => by
        have := (dig_eq_nil H2).1 (List.eq_nil_of_length_eq_zero e)
        omega
      obtain ⟨m, hm⟩ : ∃ m, (dig H b).length = m + 2 := ⟨(dig H b).length - 2, by omega⟩
      have hd := divideLong_any v0 v1 a b w h0 h1 m hm (by omega) hlen
      have Hd := hid hd
      obtain ⟨p0, c0, rfl, -⟩ := h0
      obtain ⟨p1, c1, rfl, -⟩ := h1
      have hbe : (((dig H b).length : Int) == 1) = false := beq_eq_false_iff_ne.2 (by omega)
      generalize (dig H a).length = la at *
      generalize (dig H b).length = lb at *
      clear hd hm hl0 hl1 H0 H1
      go_enter Try.func58, Try.ntmps58
      go_wp2_with fail
      refine Hd.out.mono ?_
      rintro e w1 ⟨q, r, rfl, hq, hr, hb1⟩
      go_wp2_with fail
      go_ret2
      exact ⟨_, _, rfl, hq, hr, hb1⟩

set_option maxRecDepth 100000 in
set_option maxHeartbeats 3200000 in
theorem divide_any (v0 v1 : Value) (n m : Nat) (w : World) (h0 : At w .u64 v0 (dig W n)) (h1 : At w .u64 v1 (dig W m)) (hm0 : 0 < m) (hn : sz W n ≤ 1099511627776) (hm : sz W m ≤ 1099511627776) :
    Calls Try.prog 42 #[v0, v1] w (RTwo (n / m) (n % m) w) := by
  by_cases hs : n < W ∧ m < W
  · exact divide_small v0 v1 n m w h0 h1 hs.1 hs.2 hm0
  · have s0 : ∀ W', Below w.heap.size w W' → Calls Try.prog 59 #[v0] W' (ROwn 90 .u32 (dig H n) W') := fun W' hb => by
      have := split_any v0 (dig W n) W' (h0.below hb) (small_dig W2 n) hn
      rwa [val_dig W2] at this
    have s1 : ∀ W', Below w.heap.size w W' → Calls Try.prog 59 #[v1] W' (ROwn 90 .u32 (dig H m) W') := fun W' hb => by
      have := split_any v1 (dig W m) W' (h1.below hb) (small_dig W2 m) hm
      rwa [val_dig W2] at this
    have b0 : sz H n ≤ 2199023255552 := Nat.le_trans (sz_H_W n) (by omega)
    have b1 : sz H m ≤ 2199023255552 := Nat.le_trans (sz_H_W m) (by omega)
    have dh : ∀ W' u u', At W' .u32 u (dig H n) → At W' .u32 u' (dig H m) → Calls Try.prog 58 #[u, u'] W' (RQuo (n / m) (n % m) W') := fun W' u u' hu hu' => divideHalves_any u u' n m W' hu hu' hm0 b0 b1
    have hc := compare_any v0 v1 n m w h0 h1
    have hst : strip (dig W n) = dig W n := by rw [strip_dig W2 (small_dig W2 n), val_dig W2]
    have hw0 := fun k => own_any v0 (dig W n) (w.drewN k) (h0.drewN k) (by show sz W n ≤ _; omega)
    rw [hst] at hw0
    have q0 : sz H (n / m) ≤ 4398046511104 := Nat.le_trans (sz_mono H2 (Nat.div_le_self n m)) (by omega)
    have q1 : sz H (n % m) ≤ 4398046511104 := Nat.le_trans (sz_mono H2 (Nat.mod_le n m)) (by omega)
    have S0 := hid s0; have S1 := hid s1; have Dh := hid dh; have Hc := hid hc; have Hw := hid hw0; have Q0 := hid q0; have Q1 := hid q1
    have hguard : ¬ ((dig W n).length ≤ 1 ∧ (dig W m).length ≤ 1) := fun h => hs ⟨
      Nat.lt_of_lt_of_le (lt_pow_sz W2 n) (Nat.le_trans (Nat.pow_le_pow_right (by decide) (show sz W n ≤ 1 from h.1)) (by simp)),
      Nat.lt_of_lt_of_le (lt_pow_sz W2 m) (Nat.le_trans (Nat.pow_le_pow_right (by decide) (show sz W m ≤ 1 from h.2)) (by simp))⟩
    obtain ⟨p0, c0, rfl, -⟩ := h0
    obtain ⟨p1, c1, rfl, -⟩ := h1
    have hg2 : ¬ (dig W n).length ≤ 1 ∨ ((dig W n).length ≤ 1 ∧ ¬ (dig W m).length ≤ 1) := by
      rcases Nat.lt_or_ge 1 (dig W n).length with h | h
      · exact Or.inl (by omega)
      · exact Or.inr ⟨h, fun h' => hguard ⟨h, h'⟩⟩
    obtain ⟨ln, hln⟩ : ∃ k, k = (dig W n).length := ⟨_, rfl⟩
    obtain ⟨lm, hlm⟩ : ∃ k, k = (dig W m).length := ⟨_, rfl⟩
    rw [← hln, ← hlm] at hg2
    rw [← hln] at S0 Hc Hw ⊢
    rw [← hlm] at S1 Hc ⊢
    clear s0 s1 dh hc hw0 q0 q1 hln hlm hguard hst b0 b1 hs
    rcases hg2 with hg | ⟨hg, hg'⟩
    · have hd : decide ((ln : Int) ≤ 1) = false := decide_eq_false (by omega)
      by_cases hnm : n < m
      · have ho : ord (n : Int) m = -1 := ord_lt (by omega)
        rw [ho] at Hc
        have e1 : n / m = 0 := Nat.div_eq_of_lt hnm
        have e2 : n % m = n := Nat.mod_eq_of_lt hnm
        rw [e1, e2]
        clear ho e1 e2 hnm S0 S1 Dh Q0 Q1
        go_enter Try.func42, Try.ntmps42
        go_wp2_with fail
        refine Hc.out.mono ?_
        rintro e w1 ⟨rfl, k, rfl⟩
        go_wp2_with fail
        refine (Hw.out k).mono ?_
        rintro e w2 ⟨v2, rfl, ho2, hb2⟩
        go_wp2_with fail
        go_ret2
        exact ⟨_, _, rfl, At.nil _ _, ho2.at, (below_drewN (Below.refl _ _) k).trans hb2⟩
      · obtain ⟨o, ho⟩ : ∃ o : Int, o = ord (n : Int) m := ⟨_, rfl⟩
        have ho0 : 0 ≤ o := by
          rw [ho]
          rcases Nat.lt_or_ge m n with h | h
          · rw [ord_gt (by omega)]; decide
          · rw [show n = m by omega, ord_eq]; decide
        have ho1 : ¬ o < 0 := by omega
        rw [← ho] at Hc
        have Q := hid (show (n / m) = n / m from rfl)
        clear ho hnm
        go_enter Try.func42, Try.ntmps42
        go_wp2_with fail
        refine Hc.out.mono ?_
        rintro e w1 ⟨rfl, k, rfl⟩
        go_wp2_with fail
        refine (S0.out _ (below_drewN (Below.refl _ _) k)).mono ?_
        rintro e w2 ⟨u, rfl, hu, hu1⟩
        have b12 := hid ((below_drewN (Below.refl w.heap.size w) k).trans hu1)
        clear hu1
        go_wp2_with fail
        refine (S1.out _ b12.out).mono ?_
        rintro e w3 ⟨u', rfl, hu', hu2⟩
        have b13 := hid (Below.go hu2 b12.out)
        have au := hu.at.below hu2
        clear hu2
        go_wp2_with fail
        refine (Dh.out _ _ _ au hu'.at).mono ?_
        rintro e w4 ⟨q, r, rfl, hq, hr, hb4⟩
        have b14 := hid (Below.go hb4 b13.out)
        clear hb4 au hu hu'
        go_wp2_with fail
        refine (join_any q (n / m) _ hq Q0.out).mono ?_
        rintro e w5 ⟨q5, rfl, ho5, hb5⟩
        have b15 := hid (Below.go hb5 b14.out)
        have hr5 := hr.below hb5
        clear hb5
        go_wp2_with fail
        refine (join_any r (n % m) _ hr5 Q1.out).mono ?_
        rintro e w6 ⟨r6, rfl, ho6, hb6⟩
        have b16 := hid (Below.go hb6 b15.out)
        have aq := ho5.at.below hb6
        clear hb6
        go_wp2_with fail
        go_ret2
        exact ⟨_, _, rfl, aq, ho6.at, b16.out⟩
    · have hd : decide ((ln : Int) ≤ 1) = true := decide_eq_true (by omega)
      have hd' : decide ((lm : Int) ≤ 1) = false := decide_eq_false (by omega)
      by_cases hnm : n < m
      · have ho : ord (n : Int) m = -1 := ord_lt (by omega)
        rw [ho] at Hc
        have e1 : n / m = 0 := Nat.div_eq_of_lt hnm
        have e2 : n % m = n := Nat.mod_eq_of_lt hnm
        rw [e1, e2]
        clear ho e1 e2 hnm S0 S1 Dh Q0 Q1
        go_enter Try.func42, Try.ntmps42
        go_wp2_with fail
        refine Hc.out.mono ?_
        rintro e w1 ⟨rfl, k, rfl⟩
        go_wp2_with fail
        refine (Hw.out k).mono ?_
        rintro e w2 ⟨v2, rfl, ho2, hb2⟩
        go_wp2_with fail
        go_ret2
        exact ⟨_, _, rfl, At.nil _ _, ho2.at, (below_drewN (Below.refl _ _) k).trans hb2⟩
      · obtain ⟨o, ho⟩ : ∃ o : Int, o = ord (n : Int) m := ⟨_, rfl⟩
        have ho0 : 0 ≤ o := by
          rw [ho]
          rcases Nat.lt_or_ge m n with h | h
          · rw [ord_gt (by omega)]; decide
          · rw [show n = m by omega, ord_eq]; decide
        have ho1 : ¬ o < 0 := by omega
        rw [← ho] at Hc
        have Q := hid (show (n / m) = n / m from rfl)
        clear ho hnm
        go_enter Try.func42, Try.ntmps42
        go_wp2_with fail
        refine Hc.out.mono ?_
        rintro e w1 ⟨rfl, k, rfl⟩
        go_wp2_with fail
        refine (S0.out _ (below_drewN (Below.refl _ _) k)).mono ?_
        rintro e w2 ⟨u, rfl, hu, hu1⟩
        have b12 := hid ((below_drewN (Below.refl w.heap.size w) k).trans hu1)
        clear hu1
        go_wp2_with fail
        refine (S1.out _ b12.out).mono ?_
        rintro e w3 ⟨u', rfl, hu', hu2⟩
        have b13 := hid (Below.go hu2 b12.out)
        have au := hu.at.below hu2
        clear hu2
        go_wp2_with fail
        refine (Dh.out _ _ _ au hu'.at).mono ?_
        rintro e w4 ⟨q, r, rfl, hq, hr, hb4⟩
        have b14 := hid (Below.go hb4 b13.out)
        clear hb4 au hu hu'
        go_wp2_with fail
        refine (join_any q (n / m) _ hq Q0.out).mono ?_
        rintro e w5 ⟨q5, rfl, ho5, hb5⟩
        have b15 := hid (Below.go hb5 b14.out)
        have hr5 := hr.below hb5
        clear hb5
        go_wp2_with fail
        refine (join_any r (n % m) _ hr5 Q1.out).mono ?_
        rintro e w6 ⟨r6, rfl, ho6, hb6⟩
        have b16 := hid (Below.go hb6 b15.out)
        have aq := ho5.at.below hb6
        clear hb6
        go_wp2_with fail
        go_ret2
        exact ⟨_, _, rfl, aq, ho6.at, b16.out⟩
end Go.Proofs.Ytlijekppbpefaaa
/- whole.Div of any numbers; whole.common and whole.Gcd. -/
namespace Go.Proofs.Ytlijekppbpefaaa
open Go.RowKit Big

theorem Div_any (v0 v1 : Value) (a b : Int) (w : World) (h0 : RawAt w v0 a) (h1 : RawAt w v1 b) (hb0 : b ≠ 0) : Calls Try.prog 24 #[v0, v1] w (RDiv (a / b) (a % b) 0 w) :=
  Div_of v0 v1 a b w h0 h1 hb0 (fun W' u u' hu hu' => divide_any u u' _ _ W' hu hu' (by omega) h0.sz h1.sz)

theorem gcd_step (a b : Nat) : Nat.gcd b (a % b) = Nat.gcd a b := by rw [Nat.gcd_comm a b, Nat.gcd_rec b a, Nat.gcd_comm]

def RWord (n : Nat) (w : World) (e : Ending) (w' : World) : Prop := e = .returned (.int .u64 (n : Nat)) ∧ ∃ k, w' = w.drewN k

set_option maxRecDepth 100000 in
set_option maxHeartbeats 1600000 in
theorem commonWord_any (a b : Nat) (w : World) (ha : a < W) (hb : b < W) : Calls Try.prog 79 #[.int .u64 (a : Nat), .int .u64 (b : Nat)] w (RWord (Nat.gcd a b) w) := by
  unfold W at ha hb
  go_enter Try.func79, Try.ntmps79
  go_wp2_with fail
  go_loopw [0, 1] (fun x y wr => ∃ (p q : Nat), x = .int .u64 (p : Nat) ∧ y = .int .u64 (q : Nat) ∧ p < 18446744073709551616 ∧ q < 18446744073709551616 ∧ Hid (Nat.gcd p q = Nat.gcd a b) ∧ Hid (∃ k, wr = w.drewN k)) (fun _ y _ => (intOf y).toNat)
  case atStart => exact ⟨a, b, rfl, rfl, ha, hb, rfl, 0, rfl⟩
  case round =>
    obtain ⟨p, q, rfl, rfl, hp, hq, hg, hw⟩ := hrel
    by_cases h0 : q = 0
    · subst h0
      have hres : Hid (p = Nat.gcd a b) := by have := hg.out; rw [Nat.gcd_zero_right] at this; exact this
      clear hg
      go_wp2
      go_ret
      exact ⟨by rw [← hres.out]; rfl, hw.out⟩
    · have hb1 : ((q : Int) == 0) = false := beq_eq_false_iff_ne.2 (by omega)
      have hb2 : ((q : Int) != 0) = true := by simp [bne, hb1]
      have hr : p % q < q := Nat.mod_lt _ (by omega)
      have er : (p : Int) % (q : Int) = ((p % q : Nat) : Int) := (Int.natCast_emod p q).symm
      have hg' := hid ((gcd_step p q).trans hg.out)
      have Er := hid er
      clear er hg h0
      go_wp2_with fail
      go_quiet (fail)
      rw [Er.out]
      generalize p % q = r at *
      go_wp2_with fail
      go_roundw
      case rel => exact ⟨q, r, rfl, rfl, hq, by omega, hg'.out, by obtain ⟨k, hk⟩ := hw.out; rw [hk]; exact ⟨_, drewN_twice ..⟩⟩
      case measure => (simp [intOf] <;> omega)

set_option maxRecDepth 100000 in
set_option maxHeartbeats 3200000 in
theorem common_any (v0 v1 : Value) (n m : Nat) (w : World) (h0 : At w .u64 v0 (dig W n)) (h1 : At w .u64 v1 (dig W m)) (hn : sz W n ≤ 1099511627776) (hm : sz W m ≤ 1099511627776) :
    Calls Try.prog 73 #[v0, v1] w (RAt .u64 (dig W (Nat.gcd n m)) w) := by
  by_cases hs : n < W ∧ m < W
  · obtain ⟨wn, wm⟩ := hs
    have g0 := word_any v0 _ w h0
    have g1 := word_any v1 _ w h1
    rw [head_dig wn] at g0
    rw [head_dig wm] at g1
    have gl : Nat.gcd n m < W := by
      rcases Nat.eq_zero_or_pos n with h | h
      · subst h; rw [Nat.gcd_zero_left]; exact wm
      · exact Nat.lt_of_le_of_lt (Nat.gcd_le_left m h) wn
    have G0 := hid g0; have G1 := hid g1
    have hc := hid (commonWord_any n m w wn wm)
    have hO := hid (fun W' => ownWord_any (Nat.gcd n m) W' gl)
    have l0 : (dig W n).length ≤ 1 := sz_word wn
    have l1 : (dig W m).length ≤ 1 := sz_word wm
    obtain ⟨p0, c0, rfl, -⟩ := h0
    obtain ⟨p1, c1, rfl, -⟩ := h1
    generalize (dig W n).length = ln at *
    generalize (dig W m).length = lm at *
    clear g0 g1 hn hm gl wn wm
    go_enter Try.func73, Try.ntmps73
    go_wp2_with fail
    refine G0.out.mono ?_
    rintro e w' ⟨rfl, rfl⟩
    go_wp2_with fail
    refine G1.out.mono ?_
    rintro e w' ⟨rfl, rfl⟩
    go_wp2_with fail
    refine hc.out.mono ?_
    rintro e w1 ⟨rfl, k, rfl⟩
    go_wp2_with fail
    refine (hO.out _).mono ?_
    rintro e w2 ⟨v2, rfl, ho2, hb2⟩
    go_wp2_with fail
    go_ret
    exact ⟨_, rfl, ho2, (below_drewN (Below.refl _ _) k).trans hb2⟩
  · have s0 := split_any v0 (dig W n) w h0 (small_dig W2 n) hn
    rw [val_dig W2] at s0
    have s1 : ∀ W', Below w.heap.size w W' → Calls Try.prog 59 #[v1] W' (ROwn 90 .u32 (dig H m) W') := fun W' hb => by
      have := split_any v1 (dig W m) W' (h1.below hb) (small_dig W2 m) hm
      rwa [val_dig W2] at this
    have b0 : sz H n ≤ 2199023255552 := Nat.le_trans (sz_H_W n) (by omega)
    have b1 : sz H m ≤ 2199023255552 := Nat.le_trans (sz_H_W m) (by omega)
    have S0 := hid s0; have S1 := hid s1
    have hguard : ¬ ((dig W n).length ≤ 1 ∧ (dig W m).length ≤ 1) := fun h => hs ⟨
      Nat.lt_of_lt_of_le (lt_pow_sz W2 n) (Nat.le_trans (Nat.pow_le_pow_right (by decide) (show sz W n ≤ 1 from h.1)) (by simp)),
      Nat.lt_of_lt_of_le (lt_pow_sz W2 m) (Nat.le_trans (Nat.pow_le_pow_right (by decide) (show sz W m ≤ 1 from h.2)) (by simp))⟩
    obtain ⟨p0, c0, rfl, -⟩ := h0
    obtain ⟨p1, c1, rfl, -⟩ := h1
    have hg2 : decide (((dig W n).length : Int) ≤ 1) = false ∨ (decide (((dig W n).length : Int) ≤ 1) = true ∧ decide (((dig W m).length : Int) ≤ 1) = false) := by
      rcases Nat.lt_or_ge 1 (dig W n).length with h | h
      · exact Or.inl (decide_eq_false (by omega))
      · exact Or.inr ⟨decide_eq_true (by omega), decide_eq_false (by have : ¬ (dig W m).length ≤ 1 := fun h' => hguard ⟨h, h'⟩; omega)⟩
    generalize (dig W n).length = ln at *
    generalize (dig W m).length = lm at *
    clear s0 s1 hguard hs hn hm
    rcases hg2 with hg | ⟨hg, hg'⟩
    all_goals
      go_enter Try.func73, Try.ntmps73
      go_wp2_with fail
      refine S0.out.mono ?_
      rintro e w1 ⟨u, rfl, hu, hu1⟩
      go_wp2_with fail
      refine (S1.out _ hu1).mono ?_
      rintro e w2 ⟨u', rfl, hu', hu2⟩
      have b12 := Below.go hu2 hu1
      have au := hu.at.below hu2
      have au' := hu'.at
      clear hu1 hu2 hu hu' S0 S1
      go_wp2_with fail
      go_loopg [5, 6] m (fun gk x y wr => ∃ (p : Nat), At wr .u32 x (dig H p) ∧ At wr .u32 y (dig H gk) ∧ sz H p ≤ 2199023255552 ∧ sz H gk ≤ 2199023255552 ∧ Hid (Nat.gcd p gk = Nat.gcd n m) ∧ Below w.heap.size w wr)
      case atStart => exact ⟨n, au, au', b0, b1, rfl, b12⟩
      case round =>
        obtain ⟨p, hx, hy, hp, hq, hgcd, hbel⟩ := hrel
        by_cases h0 : gk = 0
        · have hres : Hid (p = Nat.gcd n m) := by have := hgcd.out; rw [h0, Nat.gcd_zero_right] at this; exact this
          have hl : (dig H gk).length = 0 := by rw [h0]; rfl
          have hj := hid (join_any _ p wr hx (by omega))
          obtain ⟨py, cy, rfl, -⟩ := hy
          rw [hl]
          clear hl h0 hgcd hq hx
          go_wp2_with fail
          refine hj.out.mono ?_
          rintro e w5 ⟨v5, rfl, ho5, hb5⟩
          go_wp2_with fail
          go_ret
          exact ⟨_, rfl, by rw [← hres.out]; exact ho5.at, Below.go hb5 hbel⟩
        · have hl : 0 < (dig H gk).length := Nat.pos_of_ne_zero fun e => h0 ((sz_eq_zero H2).1 e)
          have hd := hid (divideHalves_any _ _ p gk wr hx hy (by omega) hp hq)
          have hg' := hid ((gcd_step p gk).trans hgcd.out)
          have hlt : p % gk < gk := Nat.mod_lt _ (by omega)
          have hsz : sz H (p % gk) ≤ 2199023255552 := Nat.le_trans (sz_mono H2 (Nat.le_of_lt hlt)) hq
          have Hy := hid hy
          obtain ⟨py, cy, rfl, -⟩ := hy
          obtain ⟨ly, hly⟩ : ∃ k, k = (dig H gk).length := ⟨_, rfl⟩
          rw [← hly] at hl hd Hy ⊢
          clear hly h0 hgcd hx
          go_wp2_with fail
          refine hd.out.mono ?_
          rintro e w5 ⟨q5, r5, rfl, -, hr5, hb5⟩
          have hy5 := Hy.out.below hb5
          have b5 := Below.go hb5 hbel
          clear hd hb5 Hy
          go_wp2_with fail
          go_roundg (p % gk)
          case measure => exact hlt
          case rel => exact ⟨gk, hy5, hr5, hq, hsz, hg'.out, b5⟩

set_option maxRecDepth 100000 in
set_option maxHeartbeats 1600000 in
theorem Gcd_any (v0 v1 : Value) (a b : Int) (w : World) (h0 : RawAt w v0 a) (h1 : RawAt w v1 b) : Calls Try.prog 55 #[v0, v1] w (RInt (Nat.gcd a.natAbs b.natAbs : Nat) w) := by
  have z0 := h0.sz
  have z1 := h1.sz
  obtain ⟨n0, s0, l0, rfl, a0, b0, c0, rfl⟩ := h0
  obtain ⟨n1, s1, l1, rfl, a1, b1, c1, rfl⟩ := h1
  rw [sg_natAbs] at z0 z1 ⊢
  rw [sg_natAbs]
  have t0 : ∀ W : World, At W .u64 s0 l0 → Calls Try.prog 41 #[s0] W (fun e w' => e = .returned (cutTo s0 (strip l0).length) ∧ w' = W) := fun W h => trim_val s0 l0 W h
  have t1 : ∀ W : World, At W .u64 s1 l1 → Calls Try.prog 41 #[s1] W (fun e w' => e = .returned (cutTo s1 (strip l1).length) ∧ w' = W) := fun W h => trim_val s1 l1 W h
  have T0 := hid t0; have T1 := hid t1; clear t0 t1
  have d0 := hid (strip_dig W2 b0)
  have d1 := hid (strip_dig W2 b1)
  go_enter Try.func55, Try.ntmps55
  go_wp2_with fail
  generalize hW : World.alloc (World.alloc (World.alloc w _) _) _ = W3
  have bw : Below w.heap.size w W3 := by rw [← hW]; exact ((below1 _ _).alloc (by simp) _).alloc (by simp; omega) _
  have hp : Pair W3 (w.heap.size + 1 + 1) 25 := by rw [← hW]; exact Pair.new2 ..
  obtain ⟨-, c01, -, c11, -⟩ : Two W3 w.heap.size (.bool n0) s0 (.bool n1) s1 := by rw [← hW]; exact (Two.new w _ _ _ _ _).below (below1 _ _)
  have z3 : w.heap.size + 3 ≤ W3.heap.size := by rw [← hW]; simp
  have A0 : ∀ W', Below W3.heap.size W3 W' → At W' .u64 (cutTo s0 (strip l0).length) (dig W (val W l0)) := fun W' h' => by have := ((a0.below bw).below h').strip; rwa [d0.out] at this ⊢
  have A1 : ∀ W', Below W3.heap.size W3 W' → At W' .u64 (cutTo s1 (strip l1).length) (dig W (val W l1)) := fun W' h' => by have := ((a1.below bw).below h').strip; rwa [d1.out] at this ⊢
  have HA0 := hid A0; have HA1 := hid A1; have bw' := hid bw; have a0' := hid (a0.below bw); have a1' := hid (a1.below bw)
  clear hW bw A0 A1 a0 a1
  generalize cutTo s0 (strip l0).length = u0 at *
  generalize cutTo s1 (strip l1).length = u1 at *
  generalize val W l0 = x at *
  generalize val W l1 = y at *
  clear d0 d1 b0 b1 c0 c1
  have hsg : Hid (sg false (Nat.gcd x y) = ((Nat.gcd x y : Nat) : Int)) := by unfold Hid sg; simp
  go_region_held3 (fun w' => w'.cell? ⟨w.heap.size, 1, none⟩ = some s0 ∧ w'.cell? ⟨w.heap.size + 1, 1, none⟩ = some s1 ∧ Pair w' (w.heap.size + 1 + 1) 25)
    (first | (go_split_ands; (try dsimp only); (repeat' apply And.intro) <;> first | assumption | exact Pair.drew ‹_› | exact Pair.below ‹_› hb9 | exact Pair.below ‹_› hb8 | exact Pair.below ‹_› hb7 | exact Pair.below ‹_› hb6 | exact Pair.below ‹_› hb5 | exact Pair.below ‹_› hb4 | exact Pair.below ‹_› hb3 | exact Pair.below ‹_› hb2 | exact Pair.below ‹_› hb1 | exact (hb9.cell (by first | omega | (simp; omega) | (simp; done))).trans ‹_› | exact (hb8.cell (by first | omega | (simp; omega) | (simp; done))).trans ‹_› | exact (hb7.cell (by first | omega | (simp; omega) | (simp; done))).trans ‹_› | exact (hb6.cell (by first | omega | (simp; omega) | (simp; done))).trans ‹_› | exact (hb5.cell (by first | omega | (simp; omega) | (simp; done))).trans ‹_› | exact (hb4.cell (by first | omega | (simp; omega) | (simp; done))).trans ‹_› | exact (hb3.cell (by first | omega | (simp; omega) | (simp; done))).trans ‹_› | exact (hb2.cell (by first | omega | (simp; omega) | (simp; done))).trans ‹_› | exact (hb1.cell (by first | omega | (simp; omega) | (simp; done))).trans ‹_› | exact Pair.set1 (Pair.set0 ‹_› _) _ _ _ | exact (cell_stored _ (by first | (dsimp only; omega) | (simp; done) | (simp; omega)) _ _).trans ‹_› | exact Pair.drew (Pair.below ‹_› (below1 _ _)) | exact Pair.below ‹_› (below1 _ _) | exact Pair.far ‹_› (by omega) hb1 | exact Pair.new .. | exact Pair.new1 .. | exact Pair.new2 .. | (go_keep; done)) | (go_keep; done))
    (first
      | (go_at_call_of 41 (s0); refine (T0.out _ a0'.out.drew).mono ?_; rintro e w' ⟨rfl, rfl⟩)
      | (go_at_call_of 41 (s1); refine (T1.out _ a1'.out.drew).mono ?_; rintro e w' ⟨rfl, rfl⟩)
      | (go_at_call 73; refine (common_any u0 u1 x y _ (HA0.out _ (Below.drew (Below.refl _ _))) (HA1.out _ (Below.drew (Below.refl _ _))) z0 z1).mono ?_; rintro e w1 ⟨v1, rfl, ho1, hb1⟩; have hz1 : w.heap.size + 3 ≤ w1.heap.size := (by have := hb1.size; simp at this; omega))
      | (go_at_call 45; refine (told_any false _ _ _ ho1).mono ?_; rintro e w2 ⟨v2, rfl, hi2, hb2⟩; obtain ⟨p2, n2, c2, rfl, hi2⟩ := hi2.shape; have hpr := Pair.below (by go_split_ands; assumption) hb2; obtain ⟨_, _, q0, q1, q2, q3⟩ := hpr.cells))
  go_wp2
  exact bodyPost_ret (v := .agg #[.bool (decide (sg false (Nat.gcd x y) < 0)), .slice p2 n2 c2]) (by simp [results, Try.results55, go_sem, q0, q1]) rfl
    ⟨_, rfl, by rw [← hsg.out]; exact hi2.stored hpr _ _ _ _, Below.stored ((bw'.out.drew.trans (hb1.mono (B' := w.heap.size) (by simp; omega))).trans (hb2.mono (B' := w.heap.size) (by omega))) (by omega) _ _⟩
end Go.Proofs.Ytlijekppbpefaaa
/- whole.Div by 0. -/
namespace Go.Proofs.Ytlijekppbpefaaa
open Go.RowKit Big

set_option maxRecDepth 100000 in
set_option maxHeartbeats 1600000 in
theorem Div_zero (v0 v1 : Value) (a : Int) (w : World) (h0 : RawAt w v0 a) (h1 : RawAt w v1 0) : Calls Try.prog 24 #[v0, v1] w (RDiv 0 0 12 w) := by
  obtain ⟨n0, s0, l0, rfl, a0, b0, c0, rfl⟩ := h0
  obtain ⟨n1, s1, l1, rfl, a1, b1, c1, hz⟩ := h1
  have t0 : ∀ W : World, At W .u64 s0 l0 → Calls Try.prog 41 #[s0] W (fun e w' => e = .returned (cutTo s0 (strip l0).length) ∧ w' = W) := fun W h => trim_val s0 l0 W h
  have t1 : ∀ W : World, At W .u64 s1 l1 → Calls Try.prog 41 #[s1] W (fun e w' => e = .returned (cutTo s1 (strip l1).length) ∧ w' = W) := fun W h => trim_val s1 l1 W h
  have hl : (strip l1).length = 0 := by
    have e := strip_dig W2 b1
    have hv : val W l1 = 0 := by
      have := congrArg Int.natAbs hz
      rw [sg_natAbs] at this
      simpa using this.symm
    rw [e, hv]; rfl
  rw [hl] at t1
  have T0 := hid t0; have T1 := hid t1
  obtain ⟨p1, k1, rfl, -⟩ := id a1
  simp only [cutTo_slice] at T1
  clear t0 t1 hl hz b0 b1 c0 c1
  go_enter Try.func24, Try.ntmps24
  go_wp2_with fail
  go_quiet ((first
    | (go_at_call_of 41 (s0); exact Calls.quiet_of_same (T0.out _ (by repeat (first | exact a0 | apply At.drewN | apply At.drew | apply At.alloc))))
    | (go_at_call 41; exact Calls.quiet_of_same (T1.out _ (by repeat (first | exact a1 | apply At.drewN | apply At.drew | apply At.alloc))))))
  generalize hW : World.drewN (World.alloc (World.alloc (World.alloc (World.alloc w _) _) _) _) _ = W3
  have bw : Below w.heap.size w W3 := by rw [← hW]; exact below_drewN ((((below1 _ _).alloc (by simp) _).alloc (by simp; omega) _).alloc (by simp; omega) _) _
  have hp : Pair W3 (w.heap.size + 1 + 1) 25 := by rw [← hW]; exact Pair.below (Pair.new2 ..) (below_drewN (below1 _ _) _)
  have hp' : Pair W3 (w.heap.size + 1 + 1 + 1) 25 := by rw [← hW]; exact Pair.new3 ..
  clear hW
  obtain ⟨_, _, q0, q1, q2, q3⟩ := hp.cells
  obtain ⟨_, _, r0, r1, r2, r3⟩ := hp'.cells
  go_wp2
  have hi6 : IntAt W3 (.agg #[.bool false, .slice none 0 0]) 0 := IntAt.zero _
  have hpB' := (hp'.other (g' := w.heap.size + 1 + 1) (by omega) 0 (.bool false)).other (g' := w.heap.size + 1 + 1) (by omega) 1 (.slice none 0 0)
  exact bodyPost_ret (v := .tuple #[.agg #[.bool false, .slice none 0 0], .agg #[.bool false, .slice none 0 0], .int .i64 12])
    (by simp [results, Try.results24, go_sem, q0, q1, r0, r1]) rfl
    ⟨_, _, rfl, (hi6.stored hp _ _ _ _).stored hpB' _ _ _ _, (hi6.stored hp _ _ _ _).stored hpB' _ _ _ _, Below.stored (Below.stored bw (by omega) _ _) (by omega) _ _⟩
end Go.Proofs.Ytlijekppbpefaaa
/- elenchusref01.times: products of digits. -/
namespace Go.Proofs.Ytlijekppbpefaaa
open Go.RowKit Big

theorem rtimes_step {O : List Nat} {k x y c P Va Vb DI DJ : Nat} (hk : k < O.length) (hP : P = c + O[k] + x * y) (hDk : D ^ k = DI * DJ)
    (hv : val D O + c * D ^ k = Va + DI * (x * Vb)) : val D (O.set k (P % 65536)) + P / 65536 * D ^ (k + 1) = Va + DI * (x * (Vb + DJ * y)) := by
  have h1 := val_set D O k (P % 65536) hk
  have e2 : P % 65536 + D * (P / 65536) = c + O[k] + x * y := by rw [← hP]; unfold D; omega
  rw [Nat.pow_succ]
  generalize val D (O.set k (P % 65536)) = V' at *
  generalize O[k] = o at *
  generalize P % 65536 = r at *
  generalize P / 65536 = q at *
  have e3 : D ^ k * (r + D * q) = D ^ k * (c + o + x * y) := by rw [e2]
  rw [hDk] at e3 h1 hv ⊢
  have g1 : q * (DI * DJ * D) = DI * DJ * (D * q) := by rw [Nat.mul_left_comm, Nat.mul_comm q D]
  have g2 : DI * (x * (Vb + DJ * y)) = DI * (x * Vb) + DI * DJ * (x * y) := by rw [Nat.mul_add, Nat.mul_add, Nat.mul_assoc DI DJ, Nat.mul_left_comm x DJ y]
  have g3 : c * (DI * DJ) = DI * DJ * c := Nat.mul_comm ..
  simp only [Nat.mul_add] at e3
  rw [g1, g2]
  rw [g3] at hv
  omega
theorem dsum_lt {x y o c : Nat} (hx : x < 65536) (hy : y < 65536) (ho : o < 65536) (hc : c < 65536) : x * y ≤ 4294836225 ∧ c + o + x * y ≤ 4294967295 ∧ (c + o + x * y) / 65536 < 65536 := by
  have h : x * y ≤ 65535 * 65535 := Nat.mul_le_mul (by omega) (by omega)
  omega

end Go.Proofs.Ytlijekppbpefaaa
/- elenchusref01.Mul. -/
namespace Go.Proofs.Ytlijekppbpefaaa
open Go.RowKit Big

theorem sz_D_W (n : Nat) : sz D n ≤ 4 * sz W n := by
  refine sz_le_of_lt D2 ?_
  rw [Nat.pow_mul, show D ^ 4 = W from rfl]
  exact lt_pow_sz W2 n

end Go.Proofs.Ytlijekppbpefaaa
