/- elenchusref01.at, Digits. -/
import Derived.Test.YtlicmnlllappnaaDoorRefTrim
import Derived.Test.YtlicmnlllappnaaDoorOwn
import Derived.Test.YtlicmnlllappnaaDoorMem2
namespace Go.Proofs.YtlicmnlllappnaaDoor
open Go.RowKit Big

set_option maxHeartbeats 400000 in
theorem at_any (v : Value) (l : List Nat) (i : Nat) (w : World) (h : At w .i64 v l) :
    Calls Tryd.prog 71 #[v, .int .i64 (i : Nat)] w fun e w' => e = .returned (.int .i64 (l[i]?.getD 0 : Nat)) ∧ w' = w := by
  obtain ⟨p, cap, rfl, h1, h2, h3, h4⟩ := h
  unfold maxLen at h2
  by_cases hi : i < l.length
  · obtain ⟨b, off, rfl, hb, hc⟩ := h4 (by omega)
    have hck := hc i hi
    have he : Hid (l[i]?.getD 0 = l[i]) := by unfold Hid; simp [hi]
    generalize l[i] = x at *
    clear hc h4
    go_enter Tryd.func71, Tryd.ntmps71
    go_wp2
    go_ret
    exact ⟨by rw [he.out]; rfl, rfl⟩
  · have he : Hid (l[i]?.getD 0 = 0) := by unfold Hid; simp [Nat.le_of_not_lt hi]
    clear h4
    go_enter Tryd.func71, Tryd.ntmps71
    go_wp2
    go_ret
    exact ⟨by rw [he.out]; rfl, rfl⟩

theorem digit_step0 {M : List Nat} {k x V : Nat} (h : M.length = 4 * k + 0) (hv : val D M = V + D ^ (4 * k) * (x % D ^ 0)) : val D (M ++ [x % 65536]) = V + D ^ (4 * k) * (x % D ^ 1) := by
  rw [val_snoc, hv, h, Nat.pow_add]
  have e : x % D ^ 1 = x % D ^ 0 + D ^ 0 * (x % 65536) := by unfold D; omega
  rw [e]; grind
theorem digit_step1 {M : List Nat} {k x V : Nat} (h : M.length = 4 * k + 1) (hv : val D M = V + D ^ (4 * k) * (x % D ^ 1)) : val D (M ++ [x / 65536 % 65536]) = V + D ^ (4 * k) * (x % D ^ 2) := by
  rw [val_snoc, hv, h, Nat.pow_add]
  have e : x % D ^ 2 = x % D ^ 1 + D ^ 1 * (x / 65536 % 65536) := by unfold D; omega
  rw [e]; grind
theorem digit_step2 {M : List Nat} {k x V : Nat} (h : M.length = 4 * k + 2) (hv : val D M = V + D ^ (4 * k) * (x % D ^ 2)) : val D (M ++ [x / 4294967296 % 65536]) = V + D ^ (4 * k) * (x % D ^ 3) := by
  rw [val_snoc, hv, h, Nat.pow_add]
  have e : x % D ^ 3 = x % D ^ 2 + D ^ 2 * (x / 4294967296 % 65536) := by unfold D; omega
  rw [e]; grind
theorem digit_step3 {M : List Nat} {k x V : Nat} (h : M.length = 4 * k + 3) (hv : val D M = V + D ^ (4 * k) * (x % D ^ 3)) : val D (M ++ [x / 281474976710656 % 65536]) = V + D ^ (4 * k) * (x % D ^ 4) := by
  rw [val_snoc, hv, h, Nat.pow_add]
  have e : x % D ^ 4 = x % D ^ 3 + D ^ 3 * (x / 281474976710656 % 65536) := by unfold D; omega
  rw [e]; grind

set_option maxRecDepth 100000 in
set_option maxHeartbeats 1600000 in
theorem Digits_any (v : Value) (l : List Nat) (w : World) (h : At w .u64 v l) (hs : Small W l) (hlen : l.length ≤ 2199023255552) :
    Calls Tryd.prog 45 #[v] w (RAt .i64 (dig D (val W l)) w) := by
  obtain ⟨p, cap, rfl, a1, a2, a3, a4⟩ := h
  unfold maxLen at a2
  go_enter Tryd.func45, Tryd.ntmps45
  go_wp2_with fail
  go_loopw [3, 9] (fun o i wr => ∃ (k : Nat) (L : List Nat), k ≤ l.length ∧ i = .int .i64 (k : Nat) ∧ Own wr w.heap.size 3 .i64 o L ∧ Hid (L.length = 4 * k) ∧ Small D L ∧
      Hid (val D L = val W (l.take k)) ∧ Below w.heap.size w wr) (fun _ i _ => l.length - (intOf i).toNat)
  case atStart => exact ⟨0, [], Nat.zero_le _, rfl, Own.nil _ _ _ _, rfl, small_nil _, rfl, Below.refl _ _⟩
  case round =>
    obtain ⟨k, L, hk, rfl, hown, hLk, hsl, hv, hbel⟩ := hrel
    by_cases hkl : k < l.length
    · obtain ⟨b, off, rfl, hbb, hcell⟩ := a4 (by omega)
      have e0 : wr.cell? ⟨b, off + k, none⟩ = some (.int .u64 (l[k] : Nat)) := (hbel.cell (p := ⟨b, off + k, none⟩) hbb).trans (hcell k hkl)
      have x0 := small_get hs k hkl
      obtain ⟨x, hx⟩ : ∃ x, x = l[k] := ⟨_, rfl⟩
      rw [← hx] at e0 x0
      have Hx := hid hx; clear hx hcell a4
      unfold W at x0
      go_wp2_with fail
      go_loopw [3, 6] (fun o i wq => ∃ (j : Nat) (M : List Nat), j ≤ 4 ∧ i = .int .i64 (j : Nat) ∧ Own wq w.heap.size 3 .i64 o M ∧ Hid (M.length = 4 * k + j) ∧ Small D M ∧
        Hid (val D M = val W (l.take k) + D ^ (4 * k) * (x % D ^ j)) ∧ Below w.heap.size w wq) (fun _ i _ => 4 - (intOf i).toNat)
      case atStart => exact ⟨0, L, Nat.zero_le _, rfl, hown, by unfold Hid at hLk ⊢; omega, hsl, by unfold Hid at hv ⊢; simp [hv, Nat.mod_one], hbel⟩
      case round =>
        obtain ⟨j, M, hj, rfl, hown', hMk, hsM, hvM, hbel'⟩ := hrel
        by_cases hj4 : j < 4
        · rcases (by omega : j = 0 ∨ j = 1 ∨ j = 2 ∨ j = 3) with rfl | rfl | rfl | rfl
          · go_wp2_with (at_builtin; refine wpList_append_at rfl _ _ 53 rfl elemInts w.heap.size _ M rfl (hown'.alloc _) _ [x % 65536] rfl (At.oneI _ _ _ _ _ (by omega)) (by rw [hMk.out]; simp [maxLen]; omega) (by rw [hMk.out]; simp; omega) (by have := hbel'.size; simp; omega) ?_; intro v2 w2 ho2 hb2 hs2)
            go_roundw
            case rel => exact ⟨1, M ++ [x % 65536], by omega, by go_num, ho2, by have := hMk.out; unfold Hid; simp; omega, small_snoc hsM (Nat.mod_lt _ (by decide)),
                digit_step0 hMk.out hvM.out, (hbel'.trans ((below1 _ _).mono hbel'.size)).trans hb2⟩
            case measure => simp [intOf]
          · go_wp2_with (at_builtin; refine wpList_append_at rfl _ _ 53 rfl elemInts w.heap.size _ M rfl (hown'.alloc _) _ [x / 65536 % 65536] rfl (At.oneI _ _ _ _ _ (by omega)) (by rw [hMk.out]; simp [maxLen]; omega) (by rw [hMk.out]; simp; omega) (by have := hbel'.size; simp; omega) ?_; intro v2 w2 ho2 hb2 hs2)
            go_roundw
            case rel => exact ⟨2, M ++ [x / 65536 % 65536], by omega, by go_num, ho2, by have := hMk.out; unfold Hid; simp; omega, small_snoc hsM (Nat.mod_lt _ (by decide)),
                digit_step1 hMk.out hvM.out, (hbel'.trans ((below1 _ _).mono hbel'.size)).trans hb2⟩
            case measure => simp [intOf]
          · go_wp2_with (at_builtin; refine wpList_append_at rfl _ _ 53 rfl elemInts w.heap.size _ M rfl (hown'.alloc _) _ [x / 4294967296 % 65536] rfl (At.oneI _ _ _ _ _ (by omega)) (by rw [hMk.out]; simp [maxLen]; omega) (by rw [hMk.out]; simp; omega) (by have := hbel'.size; simp; omega) ?_; intro v2 w2 ho2 hb2 hs2)
            go_roundw
            case rel => exact ⟨3, M ++ [x / 4294967296 % 65536], by omega, by go_num, ho2, by have := hMk.out; unfold Hid; simp; omega, small_snoc hsM (Nat.mod_lt _ (by decide)),
                digit_step2 hMk.out hvM.out, (hbel'.trans ((below1 _ _).mono hbel'.size)).trans hb2⟩
            case measure => simp [intOf]
          · go_wp2_with (at_builtin; refine wpList_append_at rfl _ _ 53 rfl elemInts w.heap.size _ M rfl (hown'.alloc _) _ [x / 281474976710656 % 65536] rfl (At.oneI _ _ _ _ _ (by omega)) (by rw [hMk.out]; simp [maxLen]; omega) (by rw [hMk.out]; simp; omega) (by have := hbel'.size; simp; omega) ?_; intro v2 w2 ho2 hb2 hs2)
            go_roundw
            case rel => exact ⟨4, M ++ [x / 281474976710656 % 65536], by omega, by go_num, ho2, by have := hMk.out; unfold Hid; simp; omega, small_snoc hsM (Nat.mod_lt _ (by decide)),
                digit_step3 hMk.out hvM.out, (hbel'.trans ((below1 _ _).mono hbel'.size)).trans hb2⟩
            case measure => simp [intOf]
        · obtain rfl : j = 4 := by omega
          have hv4 : Hid (val D M = val W (l.take (k + 1))) := by
            unfold Hid
            rw [hvM.out, val_take_succ W l k hkl, show D ^ (4 * k) = W ^ k by rw [Nat.pow_mul]; rfl, Nat.mod_eq_of_lt (show x < D ^ 4 from x0), Hx.out]
          go_wp2_with fail
          go_roundw
          case rel => exact ⟨k + 1, M, by omega, by go_num, hown', by have := hMk.out; unfold Hid; omega, hsM, hv4, hbel'⟩
          case measure => simp [intOf]; omega
    · obtain rfl : k = l.length := by omega
      have hv' : Hid (strip L = dig D (val W l)) := by
        have := hv.out
        rw [List.take_length] at this
        unfold Hid
        rw [← this, strip_dig D2 hsl]
      clear a4
      go_wp2_with (go_at_call 70; refine (rtrim_any _ L _ hown.at).mono ?_; rintro e w' ⟨v', rfl, hv'', rfl⟩)
      go_ret
      exact ⟨_, rfl, by rw [← hv'.out]; exact hv'', hbel⟩
end Go.Proofs.YtlicmnlllappnaaDoor
