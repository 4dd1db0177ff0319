/- Texts put together: ShiftDown, LongMath, DivLong, RefParts. -/
import Derived.Test.YtlicmnlllappnaaDoorProductsCardM8
import Derived.Lib.ItoaNum
/- whole.shiftDown: bits moved down. -/
namespace Go.Proofs.YtlicmnlllappnaaDoor
open Go.RowKit Big

/-- the digits of a value whose last s bits are to go: of list l, moved down, the first k -/
theorem down_digit (x y s : Nat) (h : s ≤ 31) (hx : x < 4294967296) : x / 2 ^ s + y * 2 ^ (32 - s) % 4294967296 < 4294967296 ∧
    bits BinOp.or IntKind.u32 ((x : Int) / 2 ^ s) ((y : Int) * 2 ^ (32 - s) % 4294967296) = ((x / 2 ^ s + y * 2 ^ (32 - s) % 4294967296 : Nat) : Int) := by
  by_cases h0 : s = 0
  · subst h0
    have e : y * 2 ^ (32 - 0) % 4294967296 = 0 := by show y * 4294967296 % 4294967296 = 0; omega
    have e' : (y : Int) * 2 ^ (32 - 0) % 4294967296 = ((y * 2 ^ (32 - 0) % 4294967296 : Nat) : Int) := by simp
    rw [e', e]
    have e2 : (x : Int) / 2 ^ 0 = ((x : Nat) : Int) := by simp
    rw [e2, u32_or_nat _ _ (by omega) (by omega)]
    simp
    omega
  · have hp := pow_split s h
    have hq : x / 2 ^ s < 2 ^ (32 - s) := by rw [Nat.div_lt_iff_lt_mul (Nat.two_pow_pos s), ← hp]; exact hx
    have e := shl_mod y (32 - s) (by omega)
    rw [show 32 - (32 - s) = s by omega] at e
    have hl : 2 ^ (32 - s) * (y % 2 ^ s) + 2 ^ (32 - s) ≤ 4294967296 := by
      have h1 : y % 2 ^ s + 1 ≤ 2 ^ s := Nat.mod_lt _ (Nat.two_pow_pos s)
      have h2 : 2 ^ (32 - s) * (y % 2 ^ s + 1) ≤ 2 ^ (32 - s) * 2 ^ s := Nat.mul_le_mul_left _ h1
      rw [← hp, Nat.mul_add] at h2
      omega
    refine ⟨by rw [e]; omega, ?_⟩
    have e1 : (x : Int) / 2 ^ s = ((x / 2 ^ s : Nat) : Int) := by simp
    have e2 : (y : Int) * 2 ^ (32 - s) % 4294967296 = ((y * 2 ^ (32 - s) % 4294967296 : Nat) : Int) := by simp
    rw [e1, e2, u32_or_nat _ _ (by omega) (by omega), e, Nat.or_comm, ← Nat.two_pow_add_eq_or_of_lt hq, Nat.add_comm]
theorem down_step {vX vL x y s r0 K d : Nat} (h : s ≤ 31) (hd : d = x / 2 ^ s + y * 2 ^ (32 - s) % 4294967296) (hv : 2 ^ s * vX + r0 = vL + K * (x % 2 ^ s)) :
    2 ^ s * (vX + K * d) + r0 = (vL + K * x) + K * H * (y % 2 ^ s) := by
  have e := Nat.div_add_mod x (2 ^ s)
  have e1 : 2 ^ s * (y * 2 ^ (32 - s) % 4294967296) = H * (y % 2 ^ s) := by
    by_cases h0 : s = 0
    · subst h0
      have a : y * 2 ^ (32 - 0) % 4294967296 = 0 := by show y * 4294967296 % 4294967296 = 0; omega
      rw [a]; simp [Nat.mod_one]
    · have a := shl_mod y (32 - s) (by omega)
      rw [show 32 - (32 - s) = s by omega] at a
      rw [a, ← Nat.mul_assoc, Nat.mul_comm (2 ^ s), ← pow_split s h]; rfl
  have e2 : K * (2 ^ s * (x / 2 ^ s) + x % 2 ^ s) = K * x := by rw [e]
  have e3 : 2 ^ s * (K * d) = K * (2 ^ s * (x / 2 ^ s)) + K * (H * (y % 2 ^ s)) := by
    rw [Nat.mul_left_comm, hd, Nat.mul_add, e1, Nat.mul_add]
  rw [Nat.mul_add] at e2
  rw [Nat.mul_add, e3, Nat.mul_assoc K H]
  omega

set_option maxRecDepth 100000 in
set_option maxHeartbeats 1600000 in
theorem shiftDown_any (v : Value) (l : List Nat) (s : Nat) (w : World) (h : At w .u32 v l) (hs : Small H l) (hs31 : s ≤ 31) (hlen : l.length ≤ 4398046511104) :
    Calls Tryd.prog 99 #[v, .int .i64 (s : Nat)] w (ROwn 67 .u32 (dig H (val H l / 2 ^ s)) w) := by
  obtain ⟨p, cap, rfl, a1, a2, a3, a4⟩ := h
  unfold maxLen at a2
  obtain ⟨r0, hr0⟩ : ∃ r, r = l[0]?.getD 0 % 2 ^ s := ⟨_, rfl⟩
  have Hr0 := hid hr0
  clear hr0
  go_enter Tryd.func99, Tryd.ntmps99
  go_wp2_with (first
    | (at_make; refine wpList_make_at rfl _ _ 65 rfl elemHalves w.heap.size _ _ _ l.length rfl rfl (by first | rfl | omega | (simp; done)) (by omega) (by simp [maxLen]; omega) (Nat.le_refl _) ?_; intro vo w1 ho hb1 hs1 hvo; clear hvo))
  go_loopw [5, 14] (fun o i wr => ∃ (k : Nat) (X : List Nat), k ≤ l.length ∧ i = .int .i64 (k : Nat) ∧ Own wr w.heap.size 67 .u32 o X ∧ Hid (X.length = k) ∧ Small H X ∧
      Hid (2 ^ s * val H X + r0 = val H (l.take k) + H ^ k * (l[k]?.getD 0 % 2 ^ s)) ∧ Below w.heap.size w wr) (fun _ i _ => l.length - (intOf i).toNat)
  case atStart => exact ⟨0, [], Nat.zero_le _, rfl, ho, rfl, small_nil _, by unfold Hid; rw [Hr0.out]; simp [val], hb1⟩
  case round =>
    obtain ⟨k, X, hk, rfl, hown, hXk, hsX, hv, hbel⟩ := hrel
    by_cases hkl : k < l.length
    · obtain ⟨b, off, rfl, hbb, hcell⟩ := a4 (by omega)
      have e0 : wr.cell? ⟨b, off + k, none⟩ = some (.int .u32 (l[k] : Nat)) := (hbel.cell (p := ⟨b, off + k, none⟩) hbb).trans (hcell k hkl)
      have x0 := small_get hs k hkl
      obtain ⟨x, hx⟩ : ∃ x, x = l[k] := ⟨_, rfl⟩
      rw [← hx] at e0 x0
      have Hx := hid hx
      have hv1 := hv.out
      rw [List.getElem?_eq_getElem hkl, Option.getD_some, ← hx] at hv1
      clear hx
      unfold H at x0
      by_cases hk1 : k + 1 < l.length
      · have e1 : wr.cell? ⟨b, off + (k + 1), none⟩ = some (.int .u32 (l[k + 1] : Nat)) := (hbel.cell (p := ⟨b, off + (k + 1), none⟩) hbb).trans (hcell (k + 1) hk1)
        have y0 := small_get hs (k + 1) hk1
        obtain ⟨y, hy⟩ : ∃ y, y = l[k + 1] := ⟨_, rfl⟩
        rw [← hy] at e1 y0
        unfold H at y0
        obtain ⟨d1, d2⟩ := down_digit x y s hs31 x0
        obtain ⟨d, hd⟩ : ∃ d, d = x / 2 ^ s + y * 2 ^ (32 - s) % 4294967296 := ⟨_, rfl⟩
        rw [← hd] at d1 d2
        have hv' : 2 ^ s * val H (X ++ [d]) + r0 = val H (l.take (k + 1)) + H ^ (k + 1) * (l[k + 1]?.getD 0 % 2 ^ s) := by
          rw [val_snoc, hXk.out, val_take_succ H l k hkl, ← Hx.out, Nat.pow_succ, List.getElem?_eq_getElem hk1, Option.getD_some, ← hy]
          exact down_step hs31 hd hv1
        have D2 := hid d2; have Hv' := hid hv'
        clear d2 hv' hd hy hv1 hcell a4
        go_wp2_with (at_builtin; refine wpList_append_at rfl _ _ 65 rfl elemHalves w.heap.size _ X rfl (hown.alloc _) _ [d] rfl (At.oneI _ _ _ _ _ (by exact D2.out)) (by rw [hXk.out]; simp [maxLen]; omega) (by rw [hXk.out]; simp; omega) (by have := hbel.size; simp; omega) ?_; intro v2 w2 ho2 hb2 hs2)
        go_roundw
        case rel => exact ⟨k + 1, X ++ [d], by omega, by go_num, ho2, by have := hXk.out; unfold Hid; simp; omega, small_snoc hsX d1, Hv'.out, (hbel.trans ((below1 _ _).mono hbel.size)).trans hb2⟩
        case measure => (simp [intOf] <;> omega)
      · obtain ⟨d1, d2⟩ := down_digit x 0 s hs31 x0
        have d2' : bits BinOp.or IntKind.u32 ((x : Int) / 2 ^ s) 0 = ((x / 2 ^ s + 0 * 2 ^ (32 - s) % 4294967296 : Nat) : Int) := by
          have e : ((0 : Nat) : Int) * 2 ^ (32 - s) % 4294967296 = 0 := by simp
          rw [e] at d2; exact d2
        obtain ⟨d, hd⟩ : ∃ d, d = x / 2 ^ s + 0 * 2 ^ (32 - s) % 4294967296 := ⟨_, rfl⟩
        rw [← hd] at d1 d2'
        have hv' : 2 ^ s * val H (X ++ [d]) + r0 = val H (l.take (k + 1)) + H ^ (k + 1) * (l[k + 1]?.getD 0 % 2 ^ s) := by
          rw [val_snoc, hXk.out, val_take_succ H l k hkl, ← Hx.out, Nat.pow_succ, List.getElem?_eq_none (by omega)]
          exact down_step hs31 hd hv1
        have D2 := hid d2'; have Hv' := hid hv'
        clear d2 d2' hv' hd hv1 hcell a4
        go_wp2_with (at_builtin; refine wpList_append_at rfl _ _ 65 rfl elemHalves w.heap.size _ X rfl (hown.alloc _) _ [d] rfl (At.oneI _ _ _ _ _ (by exact D2.out)) (by rw [hXk.out]; simp [maxLen]; omega) (by rw [hXk.out]; simp; omega) (by have := hbel.size; simp; omega) ?_; intro v2 w2 ho2 hb2 hs2)
        go_roundw
        case rel => exact ⟨k + 1, X ++ [d], by omega, by go_num, ho2, by have := hXk.out; unfold Hid; simp; omega, small_snoc hsX d1, Hv'.out, (hbel.trans ((below1 _ _).mono hbel.size)).trans hb2⟩
        case measure => (simp [intOf] <;> omega)
    · obtain rfl : k = l.length := by omega
      have hv' : Hid (strip X = dig H (val H l / 2 ^ s)) := by
        have := hv.out
        rw [List.take_length, List.getElem?_eq_none (Nat.le_refl _)] at this
        have hr : r0 < 2 ^ s := by rw [Hr0.out]; exact Nat.mod_lt _ (Nat.two_pow_pos s)
        simp only [Option.getD_none, Nat.zero_mod, Nat.mul_zero, Nat.add_zero] at this
        unfold Hid
        rw [← this, Nat.mul_add_div (Nat.two_pow_pos s), Nat.div_eq_of_lt hr, Nat.add_zero, strip_dig H2 hsX]
      have hst := strip_length X
      have ht := hid (htrim_val _ X wr hown.at)
      clear a4
      go_wp2_with (go_at_call 81; refine ht.out.mono ?_; rintro e w' ⟨rfl, rfl⟩)
      go_ret
      obtain ⟨po, co, rfl, -⟩ := id hown.at
      exact ⟨_, rfl, by rw [← hv'.out]; have := hown.take (strip X).length hst; rwa [← strip_is_take] at this, hbel⟩
end Go.Proofs.YtlicmnlllappnaaDoor
/- whole.divideLong: plain numbers. -/
namespace Go.Proofs.YtlicmnlllappnaaDoor
open Go.RowKit Big

theorem lead_ok (t : Nat) (h0 : 0 < t) (h : t < 4294967296) : ∃ s : Nat, s ≤ 31 ∧ (32 - (Lib.bitLen t : Int)) = (s : Int) ∧ 2147483648 ≤ t * 2 ^ s ∧ (t + 1) * 2 ^ s ≤ 4294967296 := by
  obtain ⟨a, b, c⟩ := Lib.bitLenAux_bounds 64 t (Nat.lt_trans h (by decide)) (by omega)
  have hb : Lib.bitLen t ≤ 32 := Lib.bitLen_le t 32 (by decide) h
  change 1 ≤ Lib.bitLen t at a
  change 2 ^ (Lib.bitLen t - 1) ≤ t at b
  change t < 2 ^ Lib.bitLen t at c
  generalize Lib.bitLen t = L at *
  refine ⟨32 - L, by omega, by omega, ?_, ?_⟩
  · have e : 2 ^ (L - 1) * 2 ^ (32 - L) = 2147483648 := by rw [← Nat.pow_add, show L - 1 + (32 - L) = 31 by omega]
    have := Nat.mul_le_mul_right (2 ^ (32 - L)) b
    omega
  · have e : 2 ^ L * 2 ^ (32 - L) = 4294967296 := by rw [← Nat.pow_add, show L + (32 - L) = 32 by omega]
    have := Nat.mul_le_mul_right (2 ^ (32 - L)) (show t + 1 ≤ 2 ^ L from c)
    omega
/-- the divisor, moved up: as many halves, the highest bit set -/
theorem up_divisor {b s m : Nat} {l : List Nat} (hl : l = dig H b) (hm : l.length = m + 2) (t : Nat) (ht : t = l[m + 1]'(by omega)) (h1 : 2147483648 ≤ t * 2 ^ s) (h2 : (t + 1) * 2 ^ s ≤ 4294967296) :
    (dig H (b * 2 ^ s)).length = m + 2 ∧ ∀ h : m + 1 < (dig H (b * 2 ^ s)).length, 2147483648 ≤ (dig H (b * 2 ^ s))[m + 1]'h := by
  have hv : val H l = b := by rw [hl, val_dig H2]
  have hs : Small H l := by rw [hl]; exact small_dig H2 b
  have e := val_take_succ H l (m + 1) (by omega)
  rw [show m + 1 + 1 = l.length by omega, List.take_length, hv, ← ht] at e
  have lt : val H (l.take (m + 1)) < H ^ (m + 1) := val_take_lt hs (m + 1) (by omega)
  have e1 : H ^ (m + 1) * 2147483648 ≤ b * 2 ^ s := by
    rw [e, Nat.add_mul, Nat.mul_assoc]
    have := Nat.mul_le_mul_left (H ^ (m + 1)) h1
    omega
  have e2 : b * 2 ^ s < H ^ (m + 2) := by
    have a1 : b + 1 ≤ H ^ (m + 1) * (t + 1) := by rw [e, Nat.mul_add]; omega
    have a2 : (b + 1) * 2 ^ s ≤ H ^ (m + 1) * (t + 1) * 2 ^ s := Nat.mul_le_mul_right _ a1
    have a3 : H ^ (m + 1) * (t + 1) * 2 ^ s ≤ H ^ (m + 1) * 4294967296 := by rw [Nat.mul_assoc]; exact Nat.mul_le_mul_left _ h2
    have a4 : H ^ (m + 2) = H ^ (m + 1) * 4294967296 := Nat.pow_succ ..
    have a5 : 0 < 2 ^ s := Nat.two_pow_pos s
    rw [Nat.add_mul] at a2
    omega
  have hlen : (dig H (b * 2 ^ s)).length = m + 2 := by
    have h3 : sz H (b * 2 ^ s) ≤ m + 2 := sz_le_of_lt H2 e2
    have h4 : ¬ sz H (b * 2 ^ s) ≤ m + 1 := fun hle => by
      have a1 := lt_pow_sz H2 (b * 2 ^ s)
      have a2 : H ^ sz H (b * 2 ^ s) ≤ H ^ (m + 1) := Nat.pow_le_pow_right (by decide) hle
      omega
    show sz H (b * 2 ^ s) = m + 2
    omega
  refine ⟨hlen, fun hh => ?_⟩
  have f := val_take_succ H (dig H (b * 2 ^ s)) (m + 1) (by omega)
  rw [show m + 1 + 1 = (dig H (b * 2 ^ s)).length by omega, List.take_length, val_dig H2] at f
  have lt2 : val H ((dig H (b * 2 ^ s)).take (m + 1)) < H ^ (m + 1) := val_take_lt (small_dig H2 _) (m + 1) (by omega)
  generalize (dig H (b * 2 ^ s))[m + 1]'(by omega) = u at *
  have g : H ^ (m + 1) * 2147483648 < H ^ (m + 1) * (u + 1) := by rw [Nat.mul_add]; omega
  have := Nat.lt_of_mul_lt_mul_left g
  omega
/-- the dividend, moved up: its highest halves are less than the divisor -/
theorem up_rest {X : List Nat} {t b s m k : Nat} (hs : Small H (X ++ [t])) (ht : t < 2 ^ s) (hX : X.length = k + (m + 1)) (hb : H ^ (m + 1) ≤ b) : val H ((X ++ [t]).drop k) < b * 2 ^ s := by
  have e : (X ++ [t]).drop k = X.drop k ++ [t] := by rw [List.drop_append_of_le_length (by omega)]
  have hl : (X.drop k).length = m + 1 := by simp; omega
  rw [e, val_snoc, hl]
  have h1 := val_lt (B := H) (by decide) (small_drop (small_left hs) k)
  rw [hl] at h1
  have h2 : H ^ (m + 1) * (t + 1) ≤ H ^ (m + 1) * 2 ^ s := Nat.mul_le_mul_left _ ht
  have h3 : H ^ (m + 1) * 2 ^ s ≤ b * 2 ^ s := Nat.mul_le_mul_right _ hb
  rw [Nat.mul_add] at h2
  omega
/-- what lies above a window is 0 -/
theorem above_zero {R : List Nat} {D k M : Nat} (hD : D < H ^ M) (h : val H (R.drop (k + 1)) < D) : val H (R.drop (k + M + 1)) = 0 := by
  by_cases hz : val H (R.drop (k + M + 1)) = 0
  · exact hz
  · exfalso
    by_cases hk : M ≤ (R.drop (k + 1)).length
    · have e := val_take_drop H (R.drop (k + 1)) M hk
      rw [List.drop_drop, show k + 1 + M = k + M + 1 by omega] at e
      have : H ^ M * 1 ≤ H ^ M * val H (R.drop (k + M + 1)) := Nat.mul_le_mul_left _ (by omega)
      omega
    · apply hz
      rw [List.drop_of_length_le (by simp at hk; omega)]; rfl
theorem long_lt {R : List Nat} {D k M : Nat} (sR : Small H R) (hM : D < H ^ M) (hk : k + M + 1 ≤ R.length) (h : val H (R.drop (k + 1)) < D) : val H ((R.drop k).take (M + 1)) < D * H := by
  have z := above_zero hM h
  have w1 : val H (R.drop k) = val H ((R.drop k).take (M + 1)) := by
    have e := val_take_drop H (R.drop k) (M + 1) (by simp; omega)
    rw [List.drop_drop, ← Nat.add_assoc, z, Nat.mul_zero, Nat.add_zero] at e
    exact e
  have w2 : val H (R.drop k) = R[k]'(by omega) + H * val H (R.drop (k + 1)) := val_drop_succ H R k (by omega)
  have rk := small_get sR k (by omega)
  rw [← w1, w2]
  have : H * (val H (R.drop (k + 1)) + 1) ≤ H * D := Nat.mul_le_mul_left _ h
  rw [Nat.mul_add] at this
  rw [Nat.mul_comm D H]
  omega
/-- one round -/
theorem long_step {R X Z : List Nat} {D k M n : Nat} (sR : Small H R) (hM : D < H ^ M) (hk : k + M + 1 ≤ R.length) (hZ : k < Z.length) (h : val H (R.drop (k + 1)) < D) (hv : n = val H R + D * H ^ (k + 1) * val H (Z.drop (k + 1)))
    (hX : X.length = M + 1) (hXv : val H X = val H ((R.drop k).take (M + 1)) % D) :
    val H ((R.drop k).take (M + 1)) < D * H ∧
    val H ((R.take k ++ X ++ R.drop (k + M + 1)).drop k) < D ∧ n = val H (R.take k ++ X ++ R.drop (k + M + 1)) + D * H ^ k * val H ((Z.set k (val H ((R.drop k).take (M + 1)) / D)).drop k) := by
  have z := above_zero hM h
  have w1 : val H (R.drop k) = val H ((R.drop k).take (M + 1)) := by
    have e := val_take_drop H (R.drop k) (M + 1) (by simp; omega)
    rw [List.drop_drop, ← Nat.add_assoc, z, Nat.mul_zero, Nat.add_zero] at e
    exact e
  have w2 : val H (R.drop k) = R[k]'(by omega) + H * val H (R.drop (k + 1)) := val_drop_succ H R k (by omega)
  have rk := small_get sR k (by omega)
  have hD : 0 < D := by omega
  have lt1 : val H ((R.drop k).take (M + 1)) < D * H := by
    rw [← w1, w2]
    have : H * (val H (R.drop (k + 1)) + 1) ≤ H * D := Nat.mul_le_mul_left _ h
    rw [Nat.mul_add] at this
    rw [Nat.mul_comm D H]
    omega
  refine ⟨lt1, ?_, ?_⟩
  · have e : (R.take k ++ X ++ R.drop (k + M + 1)).drop k = X ++ R.drop (k + M + 1) := by
      rw [List.append_assoc, List.drop_append_of_le_length (by simp; omega), List.drop_of_length_le (by simp; omega), List.nil_append]
    rw [e, val_append, z, Nat.mul_zero, Nat.add_zero, hXv]
    exact Nat.mod_lt _ hD
  · have e1 : val H (R.take k ++ X ++ R.drop (k + M + 1)) = val H (R.take k) + H ^ k * val H X := by
      rw [List.append_assoc, val_append, val_append, z, Nat.mul_zero, Nat.add_zero]
      congr 3
      simp; omega
    have e2 : val H R = val H (R.take k) + H ^ k * val H ((R.drop k).take (M + 1)) := by rw [val_take_drop H R k (by omega), w1]
    have e3 : val H ((Z.set k (val H ((R.drop k).take (M + 1)) / D)).drop k) = val H ((R.drop k).take (M + 1)) / D + H * val H (Z.drop (k + 1)) := by
      rw [val_drop_succ H _ k (by simpa using hZ)]
      congr 1
      · simp
      · congr 2
        rw [List.drop_set_of_lt (by omega)]
    rw [hv, e1, e2, e3, hXv]
    have e4 := Nat.div_add_mod (val H ((R.drop k).take (M + 1))) D
    generalize val H ((R.drop k).take (M + 1)) = y at *
    generalize val H (Z.drop (k + 1)) = z' at *
    generalize y / D = q at *
    generalize y % D = r at *
    rw [← e4, Nat.pow_succ]
    have a1 : H ^ k * (D * q + r) = D * H ^ k * q + H ^ k * r := by rw [Nat.mul_add, Nat.mul_comm D (H ^ k), Nat.mul_assoc]
    have a2 : D * H ^ k * (q + H * z') = D * H ^ k * q + D * (H ^ k * H) * z' := by rw [Nat.mul_add, ← Nat.mul_assoc, ← Nat.mul_assoc D, Nat.mul_assoc (D * H ^ k)]
    omega
/-- the end -/
theorem long_end {a b s r q : Nat} (h : a * 2 ^ s = r + b * 2 ^ s * q) (hr : r < b * 2 ^ s) : q = a / b ∧ r / 2 ^ s = a % b := by
  have p : 0 < 2 ^ s := Nat.two_pow_pos s
  have hb : 0 < b := Nat.pos_of_ne_zero fun e => by subst e; simp at hr
  have e1 : (a * 2 ^ s) / (b * 2 ^ s) = q := by
    rw [h, Nat.add_comm, Nat.mul_add_div (Nat.mul_pos hb p), Nat.div_eq_of_lt hr, Nat.add_zero]
  have e2 : (a * 2 ^ s) % (b * 2 ^ s) = r := by
    rw [h, Nat.add_comm, Nat.mul_add_mod, Nat.mod_eq_of_lt hr]
  rw [Nat.mul_div_mul_right _ _ p] at e1
  rw [Nat.mul_mod_mul_right] at e2
  exact ⟨e1.symm, by rw [← e2, Nat.mul_div_cancel _ p]⟩
end Go.Proofs.YtlicmnlllappnaaDoor
/- whole.divideLong: the walk. -/
namespace Go.Proofs.YtlicmnlllappnaaDoor
open Go.RowKit Big

theorem Own.other {w w' : World} {base : Nat} {e : TypeId} {k : IntKind} {v : Value} {l : List Nat} {row : Option Nat} (h : Own w base e k v l) (hg : w.grownBy w' row) (hne : ∀ g, v.ownBlock = some g → some g ≠ row) : Own w' base e k v l := by
  refine ⟨h.1, ?_⟩
  rcases h.2 with hn | ⟨g, cap, cur, rfl, h1, hh, r⟩
  · exact Or.inl hn
  · exact Or.inr ⟨g, cap, cur, rfl, h1, by rw [hg.block g (Array.getElem?_eq_some_iff.1 hh).1 (hne g rfl)]; exact hh, r⟩
def RQuo (q r : Nat) (w : World) (e : Ending) (w' : World) : Prop := ∃ v v', e = .returned (.tuple #[v, v']) ∧ At w' .u32 v (dig H q) ∧ At w' .u32 v' (dig H r) ∧ Below w.heap.size w w'

set_option maxRecDepth 100000 in
set_option maxHeartbeats 3200000 in
theorem divideLong_any (v0 v1 : Value) (a b : Nat) (w : World) (h0 : At w .u32 v0 (dig H a)) (h1 : At w .u32 v1 (dig H b)) (m : Nat) (hm : (dig H b).length = m + 2) (hab : (dig H b).length ≤ (dig H a).length) (hlen : (dig H a).length ≤ 2199023255552) :
    Calls Tryd.prog 89 #[v0, v1] w (RQuo (a / b) (a % b) w) := by
  have sa := small_dig H2 a
  have sb := small_dig H2 b
  have va := val_dig H2 a
  have hb1 : H ^ (m + 1) ≤ b := by
    have h2 : sz H b = m + 2 := hm
    have hp : 0 < b := Nat.pos_of_ne_zero fun e => by rw [e] at h2; simp [sz_zero] at h2
    have := pow_sz_le H2 hp
    rwa [h2] at this
  obtain ⟨p1, c1, rfl, b1, b2, b3, b4⟩ := id h1
  obtain ⟨bb, off, rfl, hbb, hcell⟩ := b4 (by omega)
  have e0 : w.cell? ⟨bb, off + (m + 1), none⟩ = some (.int .u32 ((dig H b)[m + 1]'(by omega) : Nat)) := hcell (m + 1) (by omega)
  have t0 := small_get sb (m + 1) (by omega)
  have tpos : 0 < (dig H b)[m + 1]'(by omega) := by
    have := last_dig H2 b (by intro e; rw [e] at hm; simp at hm)
    rw [List.getLast_eq_getElem] at this
    have hi : (dig H b).length - 1 = m + 1 := by omega
    simp only [hi] at this
    omega
  obtain ⟨t, ht⟩ : ∃ t, t = (dig H b)[m + 1]'(by omega) := ⟨_, rfl⟩
  rw [← ht] at e0 t0 tpos
  obtain ⟨s, hs31, hlz, hs1, hs2⟩ := lead_ok t tpos t0
  have hdd := up_divisor rfl hm t ht hs1 hs2
  have hup0 : ∀ W', At W' .u32 v0 (dig H a) → Calls Tryd.prog 97 #[v0, .int .i64 (s : Nat)] W' (RUp (dig H a) s W') := fun W' hW => shiftUp_any v0 _ s W' hW sa hs31 (by omega)
  have hup1 := shiftUp_any _ _ s w h1 sb hs31 (by omega)
  rw [hm] at hup1
  have hlz' := Tryd.bits_LeadingZeros32 (t : Int) w (by omega) (by unfold H at t0; omega)
  rw [Int.toNat_natCast, hlz] at hlz'
  replace hlz' := hlz'.mono (R' := fun e w' => e = .returned (.int .i64 (s : Nat)) ∧ w = w') (fun e w' h => ⟨h.1, h.2.symm⟩)
  have Hup0 := hid hup0; have Hup1 := hid hup1; have Hlz := hid hlz'; have Hva := hid va; have Hdd := hid hdd; have Hb1 := hid hb1
  have A0 := hid h0
  obtain ⟨L, hL⟩ : ∃ L, L = (dig H a).length := ⟨_, rfl⟩
  have HL := hid hL
  have hLm : m + 2 ≤ L := by omega
  have hL2 : L ≤ 2199023255552 := by omega
  have Hm := hid hm
  unfold maxLen at b2
  unfold H at t0
  have hm2 : (dig H b).length = m + 2 := hm
  rw [hm2]
  rw [hm2] at b1
  clear hup0 hup1 hlz' hlz va hdd hb1 hcell b4 b3 hm hm2 hL ht hs1 hs2 h0 h1 hab hlen tpos sa sb
  go_enter Tryd.func89, Tryd.ntmps89
  go_wp2_with fail
  refine Hlz.out.mono ?_
  rintro e w' ⟨rfl, rfl⟩
  go_wp2_with fail
  refine Hup1.out.mono ?_
  rintro e w1 ⟨X1, t1, hX1, sX1, vX1, ht1, v1, rfl, ho1, hb1⟩
  have hst := strip_length (X1 ++ [t1])
  have hsd : strip (X1 ++ [t1]) = dig H (b * 2 ^ s) := by rw [strip_dig H2 sX1, vX1, val_dig H2]
  have htr := htrim_val _ _ w1 ho1.at
  obtain ⟨q1, k1, rfl, -⟩ := id ho1.at
  have ho1' := ho1.take (strip (X1 ++ [t1])).length hst
  rw [← strip_is_take, hsd] at ho1'
  rw [hsd, show (dig H (b * 2 ^ s)).length = m + 2 from Hdd.out.1] at htr
  rw [show (dig H (b * 2 ^ s)).length = m + 2 from Hdd.out.1] at ho1'
  have Htr := hid htr
  clear hst hsd htr ho1 vX1 sX1 hX1 ht1
  simp only [cutTo] at Htr
  generalize (X1 ++ [t1]).length = n1 at *
  go_wp2_with fail
  refine Htr.out.mono ?_
  rintro e wt ⟨rfl, rfl⟩
  go_wp2_with fail
  refine (Hup0.out _ (A0.out.below hb1)).mono ?_
  rintro e w2 ⟨X2, t2, hX2, sX2, vX2, ht2, v2, rfl, ho2, hb2⟩
  have sh7 := ho1'.shape (by rw [Hdd.out.1]; omega)
  obtain ⟨g7, cap7, e7, hB7, hl7, hc7, hc7'⟩ := sh7
  injection e7 with e71 e72 e73
  subst e71
  subst e73
  have sh8 := ho2.shape (by simp)
  obtain ⟨g8, cap8, e8, hB8, hl8, hc8, hc8'⟩ := sh8
  subst e8
  obtain ⟨K, hK⟩ : ∃ K, L = K + (m + 1) := ⟨L - (m + 1), by omega⟩
  have hN : (X2 ++ [t2]).length = K + m + 2 := by rw [List.length_append, hX2, ← HL.out, hK]; simp; omega
  rw [hN] at hc8 ho2 ⊢
  rw [Hdd.out.1] at hc7
  have hXK : X2.length = K + (m + 1) := by rw [hX2, ← HL.out, hK]
  have start := hid (up_rest (b := b) sX2 ht2 hXK Hb1.out)
  rw [Hva.out] at vX2
  have HvX := hid vX2
  have HN := hid hN
  have hK1 : 1 ≤ K := by omega
  have hKl : K ≤ 2199023255552 := by omega
  have hml : m ≤ 2199023255552 := by omega
  have hKm : K + m + 2 ≤ 4398046511104 := by omega
  have bel2 := hid (Below.go hb2 hb1)
  have o7 := hid (ho1'.kept hb2)
  have hg78 : g7 ≠ g8 := by omega
  have hg7w : g7 < w2.heap.size := by have := hb2.size; omega
  have hg7 : w.heap.size ≤ g7 := hB7
  have hg8 : w.heap.size ≤ g8 := Nat.le_trans hb1.size hB8
  have z2 : g8 < w2.heap.size := hl8
  unfold maxLen at hc7' hc8'
  clear e72 ho1' Hlz Hup0 Hup1 Htr A0 hX2 vX2 hN hXK hK hLm hL2 HL hB7 hB8 hb1 hb2 hl7 hl8 e0 t0 ht2
  generalize X2 ++ [t2] = R0 at *
  go_wp2_with (first
    | (at_make; refine wpList_full_at rfl _ _ 65 rfl elemHalves w2.heap.size _ _ _ _ K rfl rfl (by first | rfl | omega | (simp; done)) (by first | rfl | omega | (simp; done)) (by omega) (by simp [maxLen]; omega) (Nat.le_refl _) ?_; intro vo w3 ho3 hb3 hs3 hvo; subst hvo))
  have o8 := ho2.kept hb3
  have o7' := hid (o7.out.kept hb3)
  have bel3 : Below w.heap.size w w3 := Below.go hb3 bel2.out
  have zq : w2.heap.size < w3.heap.size := by
    rcases ho3.2 with ⟨h, _⟩ | ⟨g, cp, cur, h, _, hh, _⟩
    · injection h with h _ _; cases h
    · injection h with h _ _
      injection h with h
      injection h with h
      subst h
      exact (Array.getElem?_eq_some_iff.1 hh).1
  have hvs : a * 2 ^ s = val H R0 + b * 2 ^ s * H ^ K * val H ((List.replicate K 0).drop K) := by rw [HvX.out]; simp [val]
  have Hvs := hid hvs
  have hD := lt_pow_sz H2 (b * 2 ^ s)
  rw [show sz H (b * 2 ^ s) = m + 2 from Hdd.out.1] at hD
  have HD := hid hD
  obtain ⟨D, hDd⟩ : ∃ D, D = b * 2 ^ s := ⟨_, rfl⟩
  have HDd := hid hDd
  have sD := small_dig H2 (b * 2 ^ s)
  rw [← hDd] at Hvs HD Hdd sD start o7'
  have vD : val H (dig H D) = D := val_dig H2 D
  have HvD := hid vD
  clear hvs hD hDd vD hb3 ho2 o7 bel2 HvX
  have hgq : w2.heap.size ≠ g8 := by omega
  have hgq7 : w2.heap.size ≠ g7 := by omega
  go_loopw [10] (fun i wr => ∃ (k : Nat) (R Z : List Nat), k ≤ K ∧ i = .int .i64 ((k : Int) - 1) ∧ Own wr wt.heap.size 67 .u32 (.slice (some ⟨g8, 0, none⟩) (K + m + 2) cap8) R ∧ Hid (R.length = K + m + 2) ∧ Small H R ∧
      Own wr w2.heap.size 67 .u32 (.slice (some ⟨w2.heap.size, 0, none⟩) K K) Z ∧ Hid (Z.length = K) ∧ Small H Z ∧ Own wr w.heap.size 67 .u32 (.slice (some ⟨g7, 0, none⟩) (m + 2) k1) (dig H D) ∧
      Hid (val H (R.drop k) < D) ∧ Hid (a * 2 ^ s = val H R + D * H ^ k * val H (Z.drop k)) ∧ Below w.heap.size w wr) (fun i _ => (intOf i + 1).toNat)
  case atStart => exact ⟨K, R0, List.replicate K 0, Nat.le_refl _, by go_num, o8, HN.out, sX2, ho3, by simp [Hid], small_zeros (by decide) _, o7'.out, start.out, Hvs.out, bel3⟩
  case round =>
    obtain ⟨k, R, Z, hk, rfl, o8', hR, sR, oq, hZ, sZ, o7'', hlt, hv, hbel⟩ := hrel
    by_cases hk0 : 0 < k
    · obtain ⟨k, rfl⟩ : ∃ k', k = k' + 1 := ⟨k - 1, by omega⟩
      have hMl : m + 2 ≤ k1 := hc7
      have hwin : Win wr g7 0 (dig H D) := fun j hj => by
        have := (o7''.cell j hj).1
        rw [Nat.zero_add]; exact this
      have hL := long_lt sR HD.out (by rw [hR.out]; omega) hlt.out
      have hqlt : val H ((R.drop k).take (m + 2 + 1)) / D < H := by
        rw [Nat.div_lt_iff_lt_mul (by have := hlt.out; omega), Nat.mul_comm]; exact hL
      have htk := takeOff_any wt.heap.size g8 (K + m + 2) cap8 k m (cap8 - k) g7 0 k1 R _ (dig H D) wr o8' hR.out (by omega) rfl Hdd.out.1 hwin hg78 sR sD (Hdd.out.2 _) (by rw [HvD.out]; exact hL) (by omega) hMl hc7'
      have Htk := hid htk; have Hql := hid hqlt
      clear htk hwin hL hqlt
      go_wp2_with fail
      rw [show k + (m + 2) + 1 - k = m + 2 + 1 by omega]
      refine Htk.out.mono ?_
      rintro e w4 ⟨X, hX, sX, rfl, hXv, o84, hgr⟩
      rw [HvD.out] at hXv ⊢
      have hst := long_step (k := k) (Z := Z) sR HD.out (by rw [hR.out]; omega) (by rw [hZ.out]; omega) hlt.out hv.out hX hXv
      have oq4 := oq.other hgr (by intro g hg; simp [Value.ownBlock] at hg; subst hg; simp; omega)
      have o74 := o7''.other hgr (by intro g hg; simp [Value.ownBlock] at hg; subst hg; simp; omega)
      obtain ⟨q, hq⟩ : ∃ q, q = val H ((R.drop k).take (m + 2 + 1)) / D := ⟨_, rfl⟩
      rw [← hq] at hst Hql ⊢
      obtain ⟨-, hst2, hst3⟩ := hst
      have Hst2 := hid hst2; have Hst3 := hid hst3; have HX := hid hX; have Hq := hid hq
      have hkZ : k < Z.length := by rw [hZ.out]; omega
      have cq := oq4.cell k hkZ
      obtain ⟨cq0, cq1⟩ := cq
      generalize Z[k] = zk at cq0
      have oqs := oq4.set k q
      have o85 := o84.other oqs.2 (by intro g hg; simp [Value.ownBlock] at hg; subst hg; simp; omega)
      have o75 := o74.other oqs.2 (by intro g hg; simp [Value.ownBlock] at hg; subst hg; simp; omega)
      have hR' : (R.take k ++ X ++ R.drop (k + (m + 2) + 1)).length = K + m + 2 := by have := hR.out; simp; omega
      have sR' : Small H (R.take k ++ X ++ R.drop (k + (m + 2) + 1)) := small_append (small_append (small_take sR _) sX) (small_drop sR _)
      have bel5 : Below w.heap.size w (w4.setCell ⟨w2.heap.size, k, none⟩ (.int .u32 (q : Nat))) :=
        (hbel.grown hgr hbel.size (by intro g hg; injection hg with hg; omega)).setCell (p := ⟨w2.heap.size, k, none⟩) (by show w.heap.size ≤ w2.heap.size; omega) _
      have HR' := hid hR'
      clear hst2 hst3 hX hq hXv hgr hR' hkZ oq4 o74 o84 oq o7'' o8' hbel
      go_wp2_with fail
      go_roundw
      case rel => exact ⟨k, _, Z.set k q, by omega, by go_num, o85, HR'.out, sR', oqs.1, by have := hZ.out; simp [Hid, this], small_set sZ _ Hql.out, o75, Hst2.out, Hst3.out, bel5⟩
      case measure => (simp [intOf] <;> omega)
    · obtain rfl : k = 0 := by omega
      have hend := long_end (r := val H R) (q := val H Z) (a := a) (b := b) (s := s) (by have := hv.out; rw [HDd.out] at this; simpa using this) (by have := hlt.out; rw [HDd.out] at this; simpa using this)
      obtain ⟨he1, he2⟩ := hend
      have htz := htrim_val _ Z wr oq.at
      have hsZ : strip Z = dig H (a / b) := by rw [strip_dig H2 sZ, he1]
      have oqt := (oq.take (strip Z).length (strip_length Z)).at
      rw [← strip_is_take] at oqt
      rw [hsZ] at htz oqt
      have hsd := shiftDown_any _ R s wr o8'.at sR hs31 (by rw [hR.out]; omega)
      rw [he2] at hsd
      have Htz := hid htz; have Hsd := hid hsd
      clear htz hsd hsZ he1 he2 hv hlt o7'' o8' oq
      simp only [cutTo] at Htz
      go_wp2_with fail
      refine Htz.out.mono ?_
      rintro e w' ⟨rfl, rfl⟩
      go_wp2_with fail
      refine Hsd.out.mono ?_
      rintro e w6 ⟨v6, rfl, ho6, hb6⟩
      go_wp2_with fail
      go_ret2
      exact ⟨_, _, rfl, oqt.below hb6, ho6.at, Below.go hb6 hbel⟩
end Go.Proofs.YtlicmnlllappnaaDoor
/- elenchusref01.parts: quotient and rest, bit by bit. -/
namespace Go.Proofs.YtlicmnlllappnaaDoor
open Go.RowKit Big

/-- one bit more -/
theorem bit_step {pre b t r q h bit : Nat} (hb : 0 < b) (hr : r = pre % b) (hq : q * h + t = pre / b) (hbit : bit ≤ 1) :
    (2 * r + bit < b → 2 * r + bit = (2 * pre + bit) % b ∧ q * (2 * h) + 2 * t = (2 * pre + bit) / b) ∧
    (b ≤ 2 * r + bit → 2 * r + bit - b = (2 * pre + bit) % b ∧ q * (2 * h) + (2 * t + 1) = (2 * pre + bit) / b) := by
  have e := Nat.div_add_mod pre b
  rw [← hr, ← hq] at e
  have hrb : r < b := by rw [hr]; exact Nat.mod_lt _ hb
  have e2 : q * (2 * h) = 2 * (q * h) := Nat.mul_left_comm ..
  have e3 : b * (2 * (q * h + t)) = 2 * (b * (q * h + t)) := Nat.mul_left_comm ..
  refine ⟨fun hlt => ?_, fun hge => ?_⟩
  · have e4 : 2 * pre + bit = b * (2 * (q * h + t)) + (2 * r + bit) := by omega
    rw [e4, Nat.mul_add_mod, Nat.mod_eq_of_lt hlt, Nat.mul_add_div hb, Nat.div_eq_of_lt hlt, e2]
    exact ⟨rfl, by omega⟩
  · have e4 : 2 * pre + bit = b * (2 * (q * h + t) + 1) + (2 * r + bit - b) := by rw [Nat.mul_add]; omega
    have hlt : 2 * r + bit - b < b := by omega
    rw [e4, Nat.mul_add_mod, Nat.mod_eq_of_lt hlt, Nat.mul_add_div hb, Nat.div_eq_of_lt hlt, e2]
    exact ⟨rfl, by omega⟩
theorem bit_pre (P x k : Nat) (hk : k ≤ 15) : 2 * (P * 2 ^ (16 - (k + 1)) + x / 2 ^ (k + 1)) + x / 2 ^ k % 2 = P * 2 ^ (16 - k) + x / 2 ^ k := by
  have e : x / 2 ^ (k + 1) = x / 2 ^ k / 2 := by rw [Nat.pow_succ, Nat.div_div_eq_div_mul]
  have e2 : 2 ^ (16 - k) = 2 * 2 ^ (16 - (k + 1)) := by
    rw [show 16 - k = (16 - (k + 1)) + 1 by omega, Nat.pow_succ, Nat.mul_comm]
  rw [e, e2, Nat.mul_left_comm]
  omega
theorem digit_lt {q t P b h x k : Nat} (hb : 0 < b) (hq : q = P / b) (h1 : q * h + t = (P * h + x / 2 ^ k) / b) (hx : x / 2 ^ k < h) : t < h := by
  have e : P < (q + 1) * b := by rw [hq, Nat.mul_comm]; exact Nat.lt_mul_div_succ P hb
  have e1 : P * h + x / 2 ^ k < (q + 1) * h * b := by
    have : (P + 1) * h ≤ (q + 1) * b * h := Nat.mul_le_mul_right _ e
    rw [Nat.add_mul] at this
    have e2 : (q + 1) * b * h = (q + 1) * h * b := Nat.mul_right_comm ..
    omega
  have e3 : (P * h + x / 2 ^ k) / b < (q + 1) * h := by rw [Nat.div_lt_iff_lt_mul hb]; exact e1
  rw [← h1, Nat.add_mul] at e3
  omega
theorem bits_left (x k : Nat) (hx : x < 65536) (hk : k ≤ 16) : x / 2 ^ k < 2 ^ (16 - k) := by
  rw [Nat.div_lt_iff_lt_mul (Nat.two_pow_pos k), ← Nat.pow_add, show 16 - k + k = 16 by omega]; exact hx

def RParts (q r : Nat) (w : World) (e : Ending) (w' : World) : Prop := ∃ v v', e = .returned (.tuple #[v, v']) ∧ At w' .i64 v (dig D q) ∧ At w' .i64 v' (dig D r) ∧ Below w.heap.size w w'

theorem wrap64_bit (z p : Nat) (hz : z ≤ 65536) (hp : p ≤ 65536) : wrap64 ((z : Int) + wrap64 ((p : Nat) : Int)) = ((z + p : Nat) : Int) := by
  have e : wrap64 ((p : Nat) : Int) = (p : Int) := by unfold wrap64; omega
  rw [e]
  unfold wrap64; omega
set_option maxRecDepth 100000 in
set_option maxHeartbeats 6400000 in
theorem rparts_any (v0 v1 : Value) (l0 : List Nat) (m : Nat) (w : World) (h0 : At w .i64 v0 l0) (h1 : At w .i64 v1 (dig D m)) (s0 : Small D l0) (hm : 0 < m)
    (hl0 : l0.length ≤ 4398046511104) (hl1 : sz D m ≤ 2199023255552) : Calls Tryd.prog 54 #[v0, v1] w (RParts (val D l0 / m) (val D l0 % m) w) := by
  have hadd : ∀ (r : Nat) (W : World) (u : Value), At W .i64 u (dig D r) → r < m → Calls Tryd.prog 44 #[u, u] W (RAt .i64 (dig D (r + r)) W) := fun r W u hu hr => by
    have hz : sz D r ≤ 2199023255552 := Nat.le_trans (sz_mono D2 (Nat.le_of_lt hr)) hl1
    have := rplus_any u u (dig D r) (dig D r) W hu hu (small_dig D2 r) (small_dig D2 r) (by show sz D r ≤ _; omega) (by show sz D r ≤ _; omega)
    rwa [val_dig D2] at this
  have hadd2 : ∀ (r b : Nat) (W : World) (u u' : Value), At W .i64 u (dig D (r + r)) → At W .i64 u' (dig D b) → r < m → b ≤ 1 → Calls Tryd.prog 44 #[u, u'] W (RAt .i64 (dig D (r + r + b)) W) := fun r b W u u' hu hu' hr hb => by
    have hz : sz D r ≤ 2199023255552 := Nat.le_trans (sz_mono D2 (Nat.le_of_lt hr)) hl1
    have hz2 : sz D (r + r) ≤ 2199023255552 + 1 := sz_add D2 hz hz
    have hz3 : sz D b ≤ 1 := sz_le_of_lt D2 (by unfold D; omega)
    have := rplus_any u u' (dig D (r + r)) (dig D b) W hu hu' (small_dig D2 _) (small_dig D2 _) (by show sz D (r + r) ≤ _; omega) (by show sz D b ≤ _; omega)
    rwa [val_dig D2, val_dig D2] at this
  have hcmp : ∀ (r : Nat) (W : World) (u : Value), At W .i64 u (dig D r) → Below w.heap.size w W → Calls Tryd.prog 72 #[u, v1] W (ROrd (ord r m) W) := fun r W u hu hb => rcompare_any u v1 r m W hu (h1.below hb)
  have hless : ∀ (r : Nat) (W : World) (u : Value), At W .i64 u (dig D r) → Below w.heap.size w W → m ≤ r → r < m + m → Calls Tryd.prog 47 #[u, v1] W (ROwn 3 .i64 (dig D (r - m)) W) := fun r W u hu hb hmr hr => by
    have hz : sz D r ≤ 2199023255552 + 1 := Nat.le_trans (sz_mono D2 (Nat.le_of_lt hr)) (sz_add D2 hl1 hl1)
    have := rless_own u v1 (dig D r) (dig D m) W hu (h1.below hb) (small_dig D2 r) (small_dig D2 m) (by show sz D r ≤ _; omega) (sz_mono D2 hmr) (by rw [val_dig D2, val_dig D2]; exact hmr)
    rwa [val_dig D2, val_dig D2] at this
  have Hadd := hid hadd; have Hadd2 := hid hadd2; have Hcmp := hid hcmp; have Hless := hid hless
  clear hadd hadd2 hcmp hless
  obtain ⟨p0, c0, rfl, a1, a2, a3, a4⟩ := h0
  unfold maxLen at a2
  clear h1 hl1
  go_enter Tryd.func54, Tryd.ntmps54
  go_wp2_with (first
    | (at_make; refine wpList_full_at rfl _ _ 53 rfl elemInts w.heap.size _ _ _ _ l0.length rfl rfl (by first | rfl | omega | (simp; done)) (by first | rfl | omega | (simp; done)) (by omega) (by simp [maxLen]; omega) (Nat.le_refl _) ?_; intro vo w1 ho hb1 hs1 hvo; subst hvo))
  have hstart : Hid (val D ((List.replicate l0.length 0).drop l0.length) = val D (l0.drop l0.length) / m) := by unfold Hid; simp [val]
  have hstart2 : Hid (val D (l0.drop l0.length) % m = 0) := by unfold Hid; simp [val]
  go_loopw [7, 8] (fun rest i wr => ∃ (k : Nat) (Z : List Nat), k ≤ l0.length ∧ i = .int .i64 ((k : Int) - 1) ∧ At wr .i64 rest (dig D (val D (l0.drop k) % m)) ∧ Own wr w.heap.size 3 .i64 (.slice (some ⟨w.heap.size, 0, none⟩) l0.length l0.length) Z ∧ Hid (Z.length = l0.length) ∧ Small D Z ∧
      Hid (val D (Z.drop k) = val D (l0.drop k) / m) ∧ Hid (∀ j, j < k → Z[j]?.getD 0 = 0) ∧ Below w.heap.size w wr ∧ w.heap.size ≤ wr.heap.size) (fun _ i _ => (intOf i + 1).toNat)
  case atStart => exact ⟨l0.length, List.replicate l0.length 0, Nat.le_refl _, rfl, by rw [hstart2.out]; exact At.nil _ _, ho, by simp [Hid], small_zeros (by decide) _, hstart.out, by intro j _; simp [List.getElem?_replicate]; split <;> rfl, hb1, hs1⟩
  case round =>
    obtain ⟨k, Z, hk, rfl, hrest, hown, hZ, hsZ, hv, hz, hbel, hsz⟩ := hrel
    by_cases hk0 : 0 < k
    · obtain ⟨k, rfl⟩ : ∃ k', k = k' + 1 := ⟨k - 1, by omega⟩
      obtain ⟨b, off, rfl, hbb, hcell⟩ := a4 (by omega)
      have x0 := small_get s0 k (by omega)
      obtain ⟨x, hx⟩ : ∃ x, x = l0[k]'(by omega) := ⟨_, rfl⟩
      have hcx := hcell k (by omega)
      rw [← hx] at x0 hcx
      have hdrop := val_drop_succ D l0 k (by omega)
      rw [← hx] at hdrop
      have Hdrop := hid hdrop; have Hcx := hid hcx; clear hx hcell a4 hcx hdrop
      unfold D at x0
      obtain ⟨P, hP⟩ : ∃ P, P = val D (l0.drop (k + 1)) := ⟨_, rfl⟩
      rw [← hP] at Hdrop hrest hv
      clear hP
      obtain ⟨q, hq⟩ : ∃ q, q = val D (Z.drop (k + 1)) := ⟨_, rfl⟩
      have Hq := hid hq
      rw [← hq] at hv
      clear hq
      have hkZ : k < Z.length := by rw [hZ.out]; omega
      have zk : Z[k] = 0 := by have := hz.out k (by omega); simpa [hkZ] using this
      have hset0 : Z.set k (2 ^ 16 * 0) = Z := by rw [Nat.mul_zero]; rw [← zk]; exact List.set_getElem_self ..
      have hpre : P * 2 ^ (16 - 16) + x / 2 ^ 16 = P := by rw [show 2 ^ 16 = 65536 from rfl, Nat.div_eq_of_lt x0]; simp
      have hst1 : Hid (q * 2 ^ (16 - 16) + 0 = (P * 2 ^ (16 - 16) + x / 2 ^ 16) / m) := by unfold Hid; rw [hpre, ← hv.out]; simp
      have HZk := hid hkZ
      have Hset0 := hid hset0; have Hpre := hid hpre
      clear zk hkZ hset0 hpre
      go_wp2_with fail
      rw [show (((k + 1 : Nat) : Int) - 1) = (k : Int) by omega]
      go_loopw [7, 9] (fun rest j wq => ∃ (kk t : Nat), kk ≤ 16 ∧ j = .int .i64 ((kk : Int) - 1) ∧ At wq .i64 rest (dig D ((P * 2 ^ (16 - kk) + x / 2 ^ kk) % m)) ∧ Own wq w.heap.size 3 .i64 (.slice (some ⟨w.heap.size, 0, none⟩) l0.length l0.length) (Z.set k (2 ^ kk * t)) ∧
        Hid (q * 2 ^ (16 - kk) + t = (P * 2 ^ (16 - kk) + x / 2 ^ kk) / m) ∧ Below w.heap.size w wq ∧ w.heap.size ≤ wq.heap.size) (fun _ j _ => (intOf j + 1).toNat)
      case atStart => exact ⟨16, 0, by omega, rfl, by rw [Hpre.out]; exact hrest, by rw [Hset0.out]; exact hown, hst1, hbel, hsz⟩
      case round =>
        obtain ⟨kk, t, hkk, rfl, hrest', hown', ht, hbel', hsz'⟩ := hrel
        by_cases hk1 : 0 < kk
        · obtain ⟨kk, rfl⟩ : ∃ k', kk = k' + 1 := ⟨kk - 1, by omega⟩
          have e0 : wr.cell? ⟨b, off + k, none⟩ = some (.int .i64 (x : Nat)) := (hbel'.cell (p := ⟨b, off + k, none⟩) hbb).trans Hcx.out
          obtain ⟨r, hr⟩ : ∃ r, r = (P * 2 ^ (16 - (kk + 1)) + x / 2 ^ (kk + 1)) % m := ⟨_, rfl⟩
          have hrm : r < m := by rw [hr]; exact Nat.mod_lt _ hm
          rw [← hr] at hrest'
          have Hr := hid hr
          clear hr
          go_wp2_with fail
          refine (Hadd.out r _ _ hrest' hrm).mono ?_
          rintro e w2 ⟨u2, rfl, hu2, hb2⟩
          have e2 : w2.cell? ⟨b, off + k, none⟩ = some (.int .i64 (x : Nat)) := (hb2.cell (p := ⟨b, off + k, none⟩) (Nat.lt_of_lt_of_le hbb hbel'.size)).trans e0
          have own2 := hown'.kept hb2
          have bel2 := Below.go hb2 hbel'
          clear e0 hb2 hown' hbel' hrest'
          obtain ⟨bit, hbit⟩ : ∃ b, b = x / 2 ^ kk % 2 := ⟨_, rfl⟩
          have hb1' : bit ≤ 1 := by omega
          have hbi : ((x : Int) / 2 ^ kk).tmod 2 = (bit : Int) := by
            have e : ((x : Int) / 2 ^ kk) = ((x / 2 ^ kk : Nat) : Int) := by simp
            rw [e, hbit]; rfl
          have Hbit := hid hbit; have Hbi := hid hbi
          clear hbit hbi
          go_wp2_with fail
          rw [Hbi.out]
          have hone := At.one w2 .i64 bit 3
          have hstr : strip [bit] = dig D bit := by
            have := strip_dig D2 (small_cons (show bit < D by unfold D; omega) (small_nil D))
            simpa [val] using this
          have htr := rtrim_any _ [bit] _ hone
          rw [hstr] at htr
          have Htr := hid htr
          clear hone hstr htr
          have b3 := below1 w2 (.cells #[.int .i64 (bit : Nat)] 3)
          have hu3 := hu2.below b3
          have e3 := (b3.cell (p := ⟨b, off + k, none⟩) (Nat.lt_of_lt_of_le hbb bel2.size)).trans e2
          have own3 := own2.kept b3
          have bel3 := Below.go b3 bel2
          clear b3 hu2 e2 own2 bel2
          generalize World.alloc w2 _ = w3 at *
          refine Htr.out.mono ?_
          rintro e w3' ⟨u4, rfl, hu4, rfl⟩
          go_wp2_with fail
          refine (Hadd2.out r bit _ _ _ hu3 hu4 hrm hb1').mono ?_
          rintro e w5 ⟨u5, rfl, hu5, hb5⟩
          have e5 := (hb5.cell (p := ⟨b, off + k, none⟩) (Nat.lt_of_lt_of_le hbb bel3.size)).trans e3
          have own5 := own3.kept hb5
          have bel5 := Below.go hb5 bel3
          clear hb5 own3 bel3 e3 hu3 hu4 Htr
          go_wp2_with fail
          have hc := Hcmp.out _ _ _ hu5 bel5
          have hbs := bit_step (pre := P * 2 ^ (16 - (kk + 1)) + x / 2 ^ (kk + 1)) (h := 2 ^ (16 - (kk + 1))) (q := q) (t := t) (bit := bit) hm Hr.out ht.out hb1'
          have h2h : 2 * 2 ^ (16 - (kk + 1)) = 2 ^ (16 - kk) := by
            rw [show 16 - kk = (16 - (kk + 1)) + 1 by omega, Nat.pow_succ, Nat.mul_comm]
          have hpre' := bit_pre P x kk (by omega)
          rw [← Hbit.out] at hpre'
          rw [hpre', h2h, show 2 * r + bit = r + r + bit by omega] at hbs
          have htl : t < 2 ^ (16 - (kk + 1)) := digit_lt hm hv.out ht.out (bits_left x (kk + 1) x0 (by omega))
          have hp2 : 2 ^ (kk + 1) * 2 ^ (16 - (kk + 1)) = 65536 := by rw [← Nat.pow_add, show kk + 1 + (16 - (kk + 1)) = 16 by omega]
          have hval : 2 ^ (kk + 1) * t + 2 ^ (kk + 1) ≤ 65536 := by
            have := Nat.mul_le_mul_left (2 ^ (kk + 1)) (show t + 1 ≤ 2 ^ (16 - (kk + 1)) from htl)
            rw [hp2, Nat.mul_add] at this; omega
          have hpw : 2 ^ (kk + 1) = 2 * 2 ^ kk := by rw [Nat.pow_succ, Nat.mul_comm]
          have hpp : 0 < 2 ^ kk := Nat.two_pow_pos kk
          have hst0 : 2 ^ (kk + 1) * t = 2 ^ kk * (2 * t) := by rw [Nat.pow_succ, Nat.mul_assoc]
          by_cases hlt : r + r + bit < m
          · rw [ord_lt (by omega)] at hc
            obtain ⟨g1, g2⟩ := hbs.1 hlt
            have Hc := hid hc; have G1 := hid g1; have G2 := hid g2; have Hst0 := hid hst0
            clear hc g1 g2 hbs h2h hpre' htl hp2 hval hpw hst0 hpp hlt
            go_wp2_with fail
            refine Hc.out.mono ?_
            rintro e w6 ⟨rfl, nn, rfl⟩
            go_wp2_with fail
            go_roundw
            case rel => exact ⟨kk, 2 * t, by omega, by go_num, by rw [← G1.out]; exact hu5.drewN nn, by rw [← Hst0.out]; exact own5.kept (below_drewN (Below.refl _ _) nn), G2.out, below_drewN bel5 nn, bel5.size⟩
            case measure => (simp [intOf] <;> omega)
          · obtain ⟨o, ho⟩ : ∃ o : Int, o = ord ((r + r + bit : Nat) : Int) m := ⟨_, rfl⟩
            have ho0 : 0 ≤ o := by
              rw [ho]
              rcases Nat.lt_or_ge m (r + r + bit) with h | h
              · rw [ord_gt (by omega)]; decide
              · rw [show r + r + bit = m by omega, ord_eq]; decide
            rw [← ho] at hc
            obtain ⟨g1, g2⟩ := hbs.2 (by omega)
            have hls := fun (W' : World) (hh : At W' .i64 u5 (dig D (r + r + bit))) (hb : Below w.heap.size w W') => Hless.out _ W' u5 hh hb (by omega) (by omega)
            have Hc := hid hc; have G1 := hid g1; have G2 := hid g2; have Hls := hid hls
            have hval' : 2 ^ (kk + 1) * t + 2 ^ kk = 2 ^ kk * (2 * t + 1) := by rw [hst0, Nat.mul_add, Nat.mul_one]
            have hv1 : 2 ^ (kk + 1) * t ≤ 65536 := by omega
            have hv2 : 2 ^ kk ≤ 65536 := by omega
            obtain ⟨z0, hz0⟩ : ∃ z, z = 2 ^ (kk + 1) * t := ⟨_, rfl⟩
            rw [← hz0] at own5 hval' hv1
            obtain ⟨pk, hpk⟩ : ∃ z, z = 2 ^ kk := ⟨_, rfl⟩
            have hv2' := hv2
            rw [← hpk] at hval' hv2'
            have Hval := hid hval'; have Hpk := hid hpk
            clear hc g1 g2 hbs h2h hpre' htl hp2 hval hpw hst0 hpp hls ho hz0 hval' hpk
            go_wp2_with fail
            refine Hc.out.mono ?_
            rintro e w6 ⟨rfl, nn, rfl⟩
            go_wp2_with fail
            refine (Hls.out _ (hu5.drewN nn) (below_drewN bel5 nn)).mono ?_
            rintro e w7 ⟨u7, rfl, hu7, hb7⟩
            have own7 := (own5.kept (below_drewN (Below.refl _ _) nn)).kept hb7
            have bel7 := Below.go hb7 (below_drewN bel5 nn)
            have hkl : k < (Z.set k z0).length := by rw [List.length_set]; exact HZk.out
            have hq5 := (own5.cell k hkl).1
            obtain ⟨cc0, f0⟩ := own7.cell k hkl
            rw [List.getElem_set_self] at cc0
            have HK := hid hkl
            clear hb7 own5 bel5 e5 hu5
            go_wp2_with fail
            have hpi : ((2 : Int) ^ kk) = ((pk : Nat) : Int) := by rw [Hpk.out]; simp
            rw [hpi, wrap64_bit z0 pk hv1 hv2']
            have hset := own7.set k (z0 + pk)
            rw [List.set_set, Hval.out, Hpk.out] at hset
            have hu8 := (hu7.other hset.2 (by intro g hg; have := hu7.row g hg; have := World.block_lt_of_cell? w5 _ hq5; simp at *; omega)).at
            rw [G1.out] at hu8
            have hvv : z0 + pk = 2 ^ kk * (2 * t + 1) := by rw [Hval.out, Hpk.out]
            rw [hvv]
            go_roundw
            case rel => exact ⟨kk, 2 * t + 1, by omega, by go_num, hu8, hset.1, G2.out, bel7.setCell (p := ⟨w.heap.size, k, none⟩) (Nat.le_refl _) _, by have := bel7.size; simpa [World.setCell] using this⟩
            case measure => (simp [intOf] <;> omega)
        · obtain rfl : kk = 0 := by omega
          have htl : t < 65536 := digit_lt (k := 0) hm hv.out ht.out (by simpa using x0)
          have hkl := HZk.out
          have hdrop := Hdrop.out
          have hv' : Hid (val D ((Z.set k t).drop k) = val D (l0.drop k) / m) := by
            unfold Hid
            rw [val_drop_succ D _ k (by rw [List.length_set]; exact hkl), List.getElem_set_self, List.drop_set_of_lt (by omega), ← Hq.out, hdrop]
            have := ht.out
            simp only [Nat.sub_zero, Nat.pow_zero, Nat.div_one] at this
            rw [show x + D * P = P * 2 ^ 16 + x by rw [Nat.mul_comm D P, Nat.add_comm]; rfl, ← this, Nat.mul_comm D q, Nat.add_comm]; rfl
          have hr' : (P * 2 ^ (16 - 0) + x / 2 ^ 0) % m = val D (l0.drop k) % m := by
            rw [hdrop]
            simp only [Nat.sub_zero, Nat.pow_zero, Nat.div_one]
            rw [Nat.mul_comm D P, Nat.add_comm]; rfl
          rw [hr'] at hrest'
          rw [Nat.pow_zero, Nat.one_mul] at hown'
          have hz' : Hid (∀ j, j < k → (Z.set k t)[j]?.getD 0 = 0) := fun j hj => by rw [List.getElem?_set_ne (by omega)]; exact hz.out j (by omega)
          have HZ' : Hid ((Z.set k t).length = l0.length) := by unfold Hid; rw [List.length_set]; exact hZ.out
          have sZ' := small_set hsZ k (show t < D from htl)
          clear hr' hkl hdrop ht htl hv hz
          go_wp2_with fail
          go_roundw
          case rel => exact ⟨k, Z.set k t, by omega, by go_num, hrest', hown', HZ', sZ', hv'.out, hz'.out, hbel', hsz'⟩
          case measure => (simp [intOf] <;> omega)
    · obtain rfl : k = 0 := by omega
      have hv' : Hid (strip Z = dig D (val D l0 / m)) := by
        have := hv.out
        simp only [List.drop_zero] at this
        unfold Hid
        rw [← this, strip_dig D2 hsZ]
      simp only [List.drop_zero] at hrest
      have htr := rtrim_any _ Z _ hown.at
      rw [hv'.out] at htr
      have Htr := hid htr
      clear a4 htr
      go_wp2_with fail
      refine Htr.out.mono ?_
      rintro e w' ⟨v', rfl, hv'', rfl⟩
      go_wp2_with fail
      go_ret2
      exact ⟨_, _, rfl, hv'', hrest, hbel⟩
end Go.Proofs.YtlicmnlllappnaaDoor
