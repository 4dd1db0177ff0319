/- Texts put together: Times, RefMul, Knuth, Guess, LessBy, TakeOff, ShiftUp, ShiftDown, LongMath. -/
import Derived.Test.YtippcalhcnjghaaDoorPrintsCardM3
import Derived.Lib.ItoaNum
/- whole.times and whole.Mul. -/
namespace Go.Proofs.YtippcalhcnjghaaDoor
open Go.RowKit Big

set_option maxHeartbeats 800000 in
theorem fits_yes (v : Value) (n : Nat) (w : World) (h : At w .u64 v (dig W n)) (hn : n < H) : Calls Tryd.prog 76 #[v] w (fun e w' => e = .returned (.bool true) ∧ w = w') := by
  have hw : n < W := Nat.lt_trans hn (by decide)
  have g := word_any v _ w h
  rw [head_dig hw] at g
  have G := hid g; clear g
  have hl : (dig W n).length ≤ 1 := sz_word hw
  obtain ⟨p, c, rfl, -⟩ := h
  generalize (dig W n).length = k at *
  unfold H at hn
  clear hw
  have h0 : (n : Int) / 4294967296 = 0 := by omega
  go_enter Tryd.func76, Tryd.ntmps76
  go_wp2_with (go_at_call 74; refine G.out.mono ?_; rintro e w' ⟨rfl, rfl⟩)
  go_ret
  exact ⟨rfl, rfl⟩
set_option maxHeartbeats 800000 in
theorem fits_no (v : Value) (n : Nat) (w : World) (h : At w .u64 v (dig W n)) (hn : H ≤ n) : Calls Tryd.prog 76 #[v] w (fun e w' => e = .returned (.bool false) ∧ w = w') := by
  by_cases hw : n < W
  · have g := word_any v _ w h
    rw [head_dig hw] at g
    have G := hid g; clear g
    have hl : (dig W n).length ≤ 1 := sz_word hw
    obtain ⟨p, c, rfl, -⟩ := h
    generalize (dig W n).length = k at *
    unfold H at hn
    unfold W at hw
    have h0 : ((n : Int) / 4294967296 == 0) = false := beq_eq_false_iff_ne.2 (by omega)
    go_enter Tryd.func76, Tryd.ntmps76
    go_wp2_with (go_at_call 74; refine G.out.mono ?_; rintro e w' ⟨rfl, rfl⟩)
    go_ret
    exact ⟨rfl, rfl⟩
  · have hl : ¬ (dig W n).length ≤ 1 := fun e => hw (Nat.lt_of_lt_of_le (lt_pow_sz W2 n) (Nat.le_trans (Nat.pow_le_pow_right (by decide) (show sz W n ≤ 1 from e)) (by simp)))
    obtain ⟨p, c, rfl, -⟩ := h
    generalize (dig W n).length = k at *
    have hd : decide ((k : Int) ≤ 1) = false := decide_eq_false (by omega)
    clear hn hw
    go_enter Tryd.func76, Tryd.ntmps76
    go_wp2_with fail
    go_ret
    exact ⟨rfl, rfl⟩

theorem sz_H_W (n : Nat) : sz H n ≤ 2 * sz W n := by
  refine sz_le_of_lt H2 ?_
  rw [Nat.pow_mul, show H ^ 2 = W from rfl]
  exact lt_pow_sz W2 n

set_option maxRecDepth 100000 in
set_option maxHeartbeats 1600000 in
theorem times_any (v0 v1 : Value) (n m : Nat) (w : World) (h0 : At w .u64 v0 (dig W n)) (h1 : At w .u64 v1 (dig W m)) (b0 : sz W n ≤ 549755813888) (b1 : sz W m ≤ 549755813888) :
    Calls Tryd.prog 51 #[v0, v1] w (RAt .u64 (dig W (n * m)) w) := by
  by_cases hs : n < H ∧ m < H
  · obtain ⟨hn, hm⟩ := hs
    have f0 := hid (fits_yes v0 n w h0 hn)
    have f1 := hid (fits_yes v1 m w h1 hm)
    have wn : n < W := Nat.lt_trans hn (by decide)
    have wm : m < W := Nat.lt_trans hm (by decide)
    have g0 := word_any v0 _ w h0
    have g1 := word_any v1 _ w h1
    rw [head_dig wn] at g0
    rw [head_dig wm] at g1
    have G0 := hid g0; have G1 := hid g1
    have hp : n * m < W := by
      have : n * m ≤ 4294967295 * 4294967295 := Nat.mul_le_mul (by unfold H at hn; omega) (by unfold H at hm; omega)
      unfold W; omega
    have hw : IntKind.u64.wrap ((n : Int) * (m : Int)) = ((n * m : Nat) : Int) := by rw [← Int.natCast_mul]; exact wrap_nat _ hp
    have hO := ownWord_any (n * m) w hp
    have HO := hid hO; have Hw := hid hw
    clear g0 g1 hw hO hp hn hm wn wm b0 b1 h0 h1
    go_enter Tryd.func51, Tryd.ntmps51
    go_wp2_with fail
    refine f0.out.mono ?_
    rintro e w' ⟨rfl, rfl⟩
    go_wp2_with fail
    refine f1.out.mono ?_
    rintro e w' ⟨rfl, rfl⟩
    go_wp2_with fail
    refine G0.out.mono ?_
    rintro e w' ⟨rfl, rfl⟩
    go_wp2_with fail
    refine G1.out.mono ?_
    rintro e w' ⟨rfl, rfl⟩
    go_wp2_with fail
    rw [Hw.out]
    refine HO.out.mono ?_
    rintro e w1 ⟨v, rfl, hv, hb⟩
    go_wp2_with fail
    go_ret
    exact ⟨_, rfl, hv, hb⟩
  · have hb0 : sz H n ≤ 1099511627776 := Nat.le_trans (sz_H_W n) (by omega)
    have hb1 : sz H m ≤ 1099511627776 := Nat.le_trans (sz_H_W m) (by omega)
    have hb2 : sz H (n * m) ≤ 2199023255552 := Nat.le_trans (sz_mul H2 n m) (by omega)
    have s0 := split_any v0 (dig W n) w h0 (small_dig W2 n) (by have : (dig W n).length = sz W n := rfl; omega)
    rw [val_dig W2] at s0
    have s1 : ∀ W', Below w.heap.size w W' → Calls Tryd.prog 61 #[v1] W' (ROwn 67 .u32 (dig H m) W') := fun W' hb => by
      have := split_any v1 (dig W m) W' (h1.below hb) (small_dig W2 m) (by have : (dig W m).length = sz W m := rfl; omega)
      rwa [val_dig W2] at this
    have th : ∀ W' u u', At W' .u32 u (dig H n) → At W' .u32 u' (dig H m) → Calls Tryd.prog 77 #[u, u'] W' (ROwn 67 .u32 (dig H (n * m)) W') := fun W' u u' hu hu' => by
      have := timesHalves_any u u' _ _ W' hu hu' (small_dig H2 n) (small_dig H2 m) (by have : (dig H n).length = sz H n := rfl; omega) (by have : (dig H m).length = sz H m := rfl; omega)
      rwa [val_dig H2, val_dig H2] at this
    have S0 := hid s0; have S1 := hid s1; have Th := hid th
    have f0 : Hid (Calls Tryd.prog 76 #[v0] w (fun e w' => e = .returned (.bool (decide (n < H))) ∧ w = w')) := by
      unfold Hid
      by_cases hn : n < H
      · rw [decide_eq_true hn]; exact fits_yes v0 n w h0 hn
      · rw [decide_eq_false hn]; exact fits_no v0 n w h0 (Nat.le_of_not_lt hn)
    have f1 : n < H → Calls Tryd.prog 76 #[v1] w (fun e w' => e = .returned (.bool false) ∧ w = w') := fun hn => fits_no v1 m w h1 (Nat.le_of_not_lt fun hm => hs ⟨hn, hm⟩)
    have F1 := hid f1
    clear s0 s1 th hs f1 h0 h1 b0 b1 hb0 hb1
    by_cases hn : n < H
    · rw [decide_eq_true hn] at f0
      go_enter Tryd.func51, Tryd.ntmps51
      go_wp2_with fail
      refine f0.out.mono ?_
      rintro e w' ⟨rfl, rfl⟩
      go_wp2_with fail
      refine (F1.out hn).mono ?_
      rintro e w' ⟨rfl, rfl⟩
      go_wp2_with fail
      refine S0.out.mono ?_
      rintro e w1 ⟨u, rfl, hu, hu1⟩
      go_wp2_with fail
      refine (S1.out _ hu1).mono ?_
      rintro e w2 ⟨u', rfl, hu', hu2⟩
      go_wp2_with fail
      refine (Th.out _ _ _ (hu.at.below hu2) hu'.at).mono ?_
      rintro e w3 ⟨u3, rfl, hu3, hb3⟩
      go_wp2_with fail
      refine (join_any _ _ _ hu3.at (by omega)).mono ?_
      rintro e w4 ⟨u4, rfl, hu4, hb4⟩
      have hbel := hid (Below.go hb4 (Below.go hb3 (Below.go hu2 hu1)))
      clear hu1 hu2 hb3 hb4
      go_wp2_with fail
      go_ret
      exact ⟨_, rfl, hu4.at, hbel.out⟩
    · rw [decide_eq_false hn] at f0
      go_enter Tryd.func51, Tryd.ntmps51
      go_wp2_with fail
      refine f0.out.mono ?_
      rintro e w' ⟨rfl, rfl⟩
      go_wp2_with fail
      refine S0.out.mono ?_
      rintro e w1 ⟨u, rfl, hu, hu1⟩
      go_wp2_with fail
      refine (S1.out _ hu1).mono ?_
      rintro e w2 ⟨u', rfl, hu', hu2⟩
      go_wp2_with fail
      refine (Th.out _ _ _ (hu.at.below hu2) hu'.at).mono ?_
      rintro e w3 ⟨u3, rfl, hu3, hb3⟩
      go_wp2_with fail
      refine (join_any _ _ _ hu3.at (by omega)).mono ?_
      rintro e w4 ⟨u4, rfl, hu4, hb4⟩
      have hbel := hid (Below.go hb4 (Below.go hb3 (Below.go hu2 hu1)))
      clear hu1 hu2 hb3 hb4
      go_wp2_with fail
      go_ret
      exact ⟨_, rfl, hu4.at, hbel.out⟩

theorem sg_mul (n0 n1 : Bool) (x y : Nat) : sg (n0 != n1) (x * y) = sg n0 x * sg n1 y := by
  unfold sg; cases n0 <;> cases n1 <;> simp [Int.neg_mul, Int.mul_neg]

set_option maxRecDepth 100000 in
set_option maxHeartbeats 1600000 in
theorem Mul_any (v0 v1 : Value) (a b : Int) (w : World) (h0 : RawAt w v0 a) (h1 : RawAt w v1 b) (ha : sz W a.natAbs ≤ 549755813888) (hb : sz W b.natAbs ≤ 549755813888) :
    Calls Tryd.prog 26 #[v0, v1] w (RInt (a * b) w) := by
  obtain ⟨n0, s0, l0, rfl, a0, b0, c0, rfl⟩ := h0
  obtain ⟨n1, s1, l1, rfl, a1, b1, c1, rfl⟩ := h1
  rw [sg_natAbs] at ha hb
  have t0 : ∀ W : World, At W .u64 s0 l0 → Calls Tryd.prog 38 #[s0] W (fun e w' => e = .returned (cutTo s0 (strip l0).length) ∧ w' = W) := fun W h => trim_val s0 l0 W h
  have t1 : ∀ W : World, At W .u64 s1 l1 → Calls Tryd.prog 38 #[s1] W (fun e w' => e = .returned (cutTo s1 (strip l1).length) ∧ w' = W) := fun W h => trim_val s1 l1 W h
  have T0 := hid t0; have T1 := hid t1; clear t0 t1
  have d0 := hid (strip_dig W2 b0)
  have d1 := hid (strip_dig W2 b1)
  obtain ⟨r, hr⟩ : ∃ r, r = sg n0 (val W l0) * sg n1 (val W l1) := ⟨_, rfl⟩
  rw [← hr]
  have Hr : Hid (sg (n0 != n1) (val W l0 * val W l1) = r) := by unfold Hid; rw [sg_mul, hr]
  clear hr
  go_enter Tryd.func26, Tryd.ntmps26
  go_wp2_with fail
  generalize hW : World.alloc (World.alloc (World.alloc w _) _) _ = W3
  have bw : Below w.heap.size w W3 := by rw [← hW]; exact ((below1 _ _).alloc (by simp) _).alloc (by simp; omega) _
  have hp : Pair W3 (w.heap.size + 1 + 1) 25 := by rw [← hW]; exact Pair.new2 ..
  obtain ⟨c00, c01, c10, c11, -⟩ : Two W3 w.heap.size (.bool n0) s0 (.bool n1) s1 := by rw [← hW]; exact (Two.new w _ _ _ _ _).below (below1 _ _)
  have z3 : w.heap.size + 3 ≤ W3.heap.size := by rw [← hW]; simp
  have A0 : ∀ W', Below W3.heap.size W3 W' → At W' .u64 (cutTo s0 (strip l0).length) (dig W (val W l0)) := fun W' h' => by have := ((a0.below bw).below h').strip; rwa [d0.out] at this ⊢
  have A1 : ∀ W', Below W3.heap.size W3 W' → At W' .u64 (cutTo s1 (strip l1).length) (dig W (val W l1)) := fun W' h' => by have := ((a1.below bw).below h').strip; rwa [d1.out] at this ⊢
  have HA0 := hid A0; have HA1 := hid A1; have bw' := hid bw; have a0' := hid (a0.below bw); have a1' := hid (a1.below bw)
  clear hW bw A0 A1 a0 a1
  generalize cutTo s0 (strip l0).length = u0 at *
  generalize cutTo s1 (strip l1).length = u1 at *
  generalize val W l0 = x at *
  generalize val W l1 = y at *
  clear d0 d1 b0 b1 c0 c1
  go_region_held3 (fun w' => w'.cell? ⟨w.heap.size, 0, none⟩ = some (.bool n0) ∧ w'.cell? ⟨w.heap.size, 1, none⟩ = some s0 ∧ w'.cell? ⟨w.heap.size + 1, 0, none⟩ = some (.bool n1) ∧ w'.cell? ⟨w.heap.size + 1, 1, none⟩ = some s1 ∧ Pair w' (w.heap.size + 1 + 1) 25)
    (first | (go_split_ands; (try dsimp only); (repeat' apply And.intro) <;> first | assumption | exact Pair.drew ‹_› | exact Pair.below ‹_› hb9 | exact Pair.below ‹_› hb8 | exact Pair.below ‹_› hb7 | exact Pair.below ‹_› hb6 | exact Pair.below ‹_› hb5 | exact Pair.below ‹_› hb4 | exact Pair.below ‹_› hb3 | exact Pair.below ‹_› hb2 | exact Pair.below ‹_› hb1 | exact (hb9.cell (by first | omega | (simp; omega) | (simp; done))).trans ‹_› | exact (hb8.cell (by first | omega | (simp; omega) | (simp; done))).trans ‹_› | exact (hb7.cell (by first | omega | (simp; omega) | (simp; done))).trans ‹_› | exact (hb6.cell (by first | omega | (simp; omega) | (simp; done))).trans ‹_› | exact (hb5.cell (by first | omega | (simp; omega) | (simp; done))).trans ‹_› | exact (hb4.cell (by first | omega | (simp; omega) | (simp; done))).trans ‹_› | exact (hb3.cell (by first | omega | (simp; omega) | (simp; done))).trans ‹_› | exact (hb2.cell (by first | omega | (simp; omega) | (simp; done))).trans ‹_› | exact (hb1.cell (by first | omega | (simp; omega) | (simp; done))).trans ‹_› | exact Pair.set1 (Pair.set0 ‹_› _) _ _ _ | exact (cell_stored _ (by first | (dsimp only; omega) | (simp; done) | (simp; omega)) _ _).trans ‹_› | exact Pair.drew (Pair.below ‹_› (below1 _ _)) | exact Pair.below ‹_› (below1 _ _) | exact Pair.far ‹_› (by omega) hb1 | exact Pair.new .. | exact Pair.new1 .. | exact Pair.new2 .. | (go_keep; done)) | (go_keep; done))
    (first
      | (go_at_call_of 38 (s0); refine (T0.out _ a0'.out.drew).mono ?_; rintro e w' ⟨rfl, rfl⟩)
      | (go_at_call_of 38 (s1); refine (T1.out _ a1'.out.drew).mono ?_; rintro e w' ⟨rfl, rfl⟩)
      | (go_at_call 51; refine (times_any u0 u1 x y _ (HA0.out _ (Below.drew (Below.refl _ _))) (HA1.out _ (Below.drew (Below.refl _ _))) ha hb).mono ?_; rintro e w1 ⟨v1, rfl, ho1, hb1⟩; have hz1 : w.heap.size + 3 ≤ w1.heap.size := (by have := hb1.size; simp at this; omega))
      | (go_at_call 39; refine (told_any (n0 != n1) _ _ _ ho1).mono ?_; rintro e w2 ⟨v2, rfl, hi2, hb2⟩; obtain ⟨p2, n2, c2, rfl, hi2⟩ := hi2.shape; have hpr := Pair.below (by go_split_ands; assumption) hb2; obtain ⟨_, _, q0, q1, q2, q3⟩ := hpr.cells))
  go_wp2
  exact bodyPost_ret (v := .agg #[.bool (decide (sg (n0 != n1) (x * y) < 0)), .slice p2 n2 c2]) (by simp [results, Tryd.results26, go_sem, q0, q1]) rfl
    ⟨_, rfl, by rw [← Hr.out]; exact hi2.stored hpr _ _ _ _, Below.stored ((bw'.out.drew.trans (hb1.mono (B' := w.heap.size) (by simp; omega))).trans (hb2.mono (B' := w.heap.size) (by omega))) (by omega) _ _⟩
end Go.Proofs.YtippcalhcnjghaaDoor
/- elenchusref01.Mul. -/
namespace Go.Proofs.YtippcalhcnjghaaDoor
open Go.RowKit Big

theorem sz_D_W (n : Nat) : sz D n ≤ 4 * sz W n := by
  refine sz_le_of_lt D2 ?_
  rw [Nat.pow_mul, show D ^ 4 = W from rfl]
  exact lt_pow_sz W2 n

set_option maxRecDepth 100000 in
set_option maxHeartbeats 1600000 in
theorem RMul_any (v0 v1 : Value) (a b : Int) (w : World) (h0 : RawAt w v0 a) (h1 : RawAt w v1 b) (ha : sz W a.natAbs ≤ 549755813888) (hb : sz W b.natAbs ≤ 549755813888) :
    Calls Tryd.prog 27 #[v0, v1] w (RInt (a * b) w) := by
  obtain ⟨n0, s0, l0, rfl, a0, b0, c0, rfl⟩ := h0
  obtain ⟨n1, s1, l1, rfl, a1, b1, c1, rfl⟩ := h1
  rw [sg_natAbs] at ha hb
  have g0 : ∀ W', Below w.heap.size w W' → Calls Tryd.prog 45 #[s0] W' (RAt .i64 (dig D (val W l0)) W') := fun W' hb => Digits_any s0 l0 W' (a0.below hb) b0 (by omega)
  have g1 : ∀ W', Below w.heap.size w W' → Calls Tryd.prog 45 #[s1] W' (RAt .i64 (dig D (val W l1)) W') := fun W' hb => Digits_any s1 l1 W' (a1.below hb) b1 (by omega)
  obtain ⟨r, hr⟩ : ∃ r, r = sg n0 (val W l0) * sg n1 (val W l1) := ⟨_, rfl⟩
  rw [← hr]
  have Hr : Hid (sg (n0 != n1) (val W l0 * val W l1) = r) := by unfold Hid; rw [sg_mul, hr]
  clear hr
  generalize val W l0 = x at *
  generalize val W l1 = y at *
  have d0 : sz D x ≤ 2199023255552 := Nat.le_trans (sz_D_W x) (by omega)
  have d1 : sz D y ≤ 2199023255552 := Nat.le_trans (sz_D_W y) (by omega)
  have dxy : sz D (x * y) ≤ 8796093022208 := Nat.le_trans (sz_mul D2 x y) (by omega)
  have wxy : sz W (x * y) ≤ 2199023255552 := Nat.le_trans (sz_mul W2 x y) (by omega)
  have ht : ∀ W' u u', At W' .i64 u (dig D x) → At W' .i64 u' (dig D y) → Calls Tryd.prog 52 #[u, u'] W' (RAt .i64 (dig D (x * y)) W') := fun W' u u' hu hu' => by
    have := rtimes_any u u' _ _ W' hu hu' (small_dig D2 x) (small_dig D2 y) (by show sz D x ≤ _; omega) (by show sz D y ≤ _; omega)
    rwa [val_dig D2, val_dig D2] at this
  have hf : ∀ W' u, At W' .i64 u (dig D (x * y)) → Calls Tryd.prog 43 #[u] W' (RAt .u64 (dig W (x * y)) W') := fun W' u hu => by
    have := From_any u _ W' hu (small_dig D2 _) dxy
    rwa [val_dig D2] at this
  have hw : ∀ W' u, At W' .u64 u (dig W (x * y)) → Calls Tryd.prog 24 #[.bool (n0 != n1), u] W' (RInt r W') := fun W' u hu => by
    have := Whole_any (n0 != n1) u _ W' hu (small_dig W2 _) wxy
    rw [val_dig W2, Hr.out] at this
    exact this
  have G0 := hid g0; have G1 := hid g1; have HT := hid ht; have HF := hid hf; have HW := hid hw
  clear g0 g1 ht hf hw a0 a1 b0 b1 c0 c1 ha hb Hr
  go_enter Tryd.func27, Tryd.ntmps27
  go_wp2_with fail
  generalize hW : World.alloc (World.alloc (World.alloc w _) _) _ = W3
  have bw : Below w.heap.size w W3 := by rw [← hW]; exact ((below1 _ _).alloc (by simp) _).alloc (by simp; omega) _
  have hp : Pair W3 (w.heap.size + 1 + 1) 25 := by rw [← hW]; exact Pair.new2 ..
  obtain ⟨c00, c01, c10, c11, -⟩ : Two W3 w.heap.size (.bool n0) s0 (.bool n1) s1 := by rw [← hW]; exact (Two.new w _ _ _ _ _).below (below1 _ _)
  have z3 : w.heap.size + 3 ≤ W3.heap.size := by rw [← hW]; simp
  have bw' := hid bw
  clear hW
  go_region_held3 (fun w' => w'.cell? ⟨w.heap.size, 0, none⟩ = some (.bool n0) ∧ w'.cell? ⟨w.heap.size, 1, none⟩ = some s0 ∧ w'.cell? ⟨w.heap.size + 1, 0, none⟩ = some (.bool n1) ∧ w'.cell? ⟨w.heap.size + 1, 1, none⟩ = some s1 ∧ Pair w' (w.heap.size + 1 + 1) 25)
    (first | (go_split_ands; (try dsimp only); (repeat' apply And.intro) <;> first | assumption | exact Pair.drew ‹_› | exact Pair.below ‹_› hb9 | exact Pair.below ‹_› hb8 | exact Pair.below ‹_› hb7 | exact Pair.below ‹_› hb6 | exact Pair.below ‹_› hb5 | exact Pair.below ‹_› hb4 | exact Pair.below ‹_› hb3 | exact Pair.below ‹_› hb2 | exact Pair.below ‹_› hb1 | exact (hb9.cell (by first | omega | (simp; omega) | (simp; done))).trans ‹_› | exact (hb8.cell (by first | omega | (simp; omega) | (simp; done))).trans ‹_› | exact (hb7.cell (by first | omega | (simp; omega) | (simp; done))).trans ‹_› | exact (hb6.cell (by first | omega | (simp; omega) | (simp; done))).trans ‹_› | exact (hb5.cell (by first | omega | (simp; omega) | (simp; done))).trans ‹_› | exact (hb4.cell (by first | omega | (simp; omega) | (simp; done))).trans ‹_› | exact (hb3.cell (by first | omega | (simp; omega) | (simp; done))).trans ‹_› | exact (hb2.cell (by first | omega | (simp; omega) | (simp; done))).trans ‹_› | exact (hb1.cell (by first | omega | (simp; omega) | (simp; done))).trans ‹_› | exact Pair.set1 (Pair.set0 ‹_› _) _ _ _ | exact (cell_stored _ (by first | (dsimp only; omega) | (simp; done) | (simp; omega)) _ _).trans ‹_› | exact Pair.drew (Pair.below ‹_› (below1 _ _)) | exact Pair.below ‹_› (below1 _ _) | exact Pair.far ‹_› (by omega) hb1 | exact Pair.new .. | exact Pair.new1 .. | exact Pair.new2 .. | (go_keep; done)) | (go_keep; done))
    (first
      | (go_at_call_of 45 (s0); (fail_if_success have _t := i1); refine (G0.out _ (Below.drew bw'.out)).mono ?_; rintro e w1 ⟨v1, rfl, i1, hb1⟩; have hz1 : w.heap.size + 3 ≤ w1.heap.size := (by have := hb1.size; simp at this; omega); have bw1 := hid (bw'.out.drew.trans (hb1.mono (B' := w.heap.size) (by simp; omega))))
      | (go_at_call_of 45 (s1); refine (G1.out _ bw1.out).mono ?_; rintro e w2 ⟨v2, rfl, i2, hb2⟩; have i1' := i1.below hb2; have hz2 : w.heap.size + 3 ≤ w2.heap.size := (by have := hb2.size; omega); have bw2 := hid (bw1.out.trans (hb2.mono (B' := w.heap.size) (by omega))))
      | (go_at_call 52; refine (HT.out _ _ _ i1' i2).mono ?_; rintro e w3 ⟨v3, rfl, i3, hb3⟩; have hz3 : w.heap.size + 3 ≤ w3.heap.size := (by have := hb3.size; omega); have bw3 := hid (bw2.out.trans (hb3.mono (B' := w.heap.size) (by omega))))
      | (go_at_call 43; refine (HF.out _ _ i3).mono ?_; rintro e w4 ⟨v4, rfl, i4, hb4⟩; have hz4 : w.heap.size + 3 ≤ w4.heap.size := (by have := hb4.size; omega); have bw4 := hid (bw3.out.trans (hb4.mono (B' := w.heap.size) (by omega))))
      | (go_at_call 24; refine (HW.out _ _ i4).mono ?_; rintro e w5 ⟨v5, rfl, hi5, hb5⟩; have hz5 : w.heap.size + 3 ≤ w5.heap.size := (by have := hb5.size; omega); have bw5 := hid (bw4.out.trans (hb5.mono (B' := w.heap.size) (by omega))); obtain ⟨p5, n5, c5, rfl, hi5⟩ := hi5.shape; have hpr := Pair.below (by go_split_ands; assumption) hb5; obtain ⟨_, _, q0, q1, q2, q3⟩ := hpr.cells))
  go_wp2
  exact bodyPost_ret (v := .agg #[.bool (decide (r < 0)), .slice p5 n5 c5]) (by simp [results, Tryd.results27, go_sem, q0, q1]) rfl
    ⟨_, rfl, hi5.stored hpr _ _ _ _, Below.stored bw5.out (by omega) _ _⟩
end Go.Proofs.YtippcalhcnjghaaDoor
/- Division as on paper: plain numbers. -/
namespace Go.Proofs.YtippcalhcnjghaaDoor.Big

/-- the guess from the highest halves: right, or one too often -/
theorem guess_ok {P low lowb R T r0 r1 r2 t0 t1 h q : Nat} (hl : low < P) (hlb : lowb < P) (hR : R = r0 + H * r1 + H * H * r2) (hT : T = t0 + H * t1)
    (h0 : r0 < H) (h1 : r1 < H) (ht0 : t0 < H) (ht : 2147483648 ≤ t1) (hlt : low + P * R < (lowb + P * T) * H) (hh : h = (r2 * H + r1) / t1) (hq : q = (low + P * R) / (lowb + P * T)) :
    q < H ∧ h ≤ H + 1 ∧ ((H ≤ h ∨ R < h * T) → q ≤ h - 1 ∧ h - 1 ≤ q + 1 ∧ h - 1 ≤ H ∧ 0 < h) ∧ (h < H → h * T ≤ R → q ≤ h ∧ h ≤ q + 1) := by
  have hH : H = 4294967296 := rfl
  have hB : 0 < lowb + P * T := by
    have : 0 < T := by rw [hT]; have : H * 2147483648 ≤ H * t1 := Nat.mul_le_mul_left _ ht; omega
    have : 0 < P * T := Nat.mul_pos (by omega) this
    omega
  have q1 : q < H := by rw [hq, Nat.div_lt_iff_lt_mul hB]; rw [Nat.mul_comm H]; exact hlt
  have hqB : q * (lowb + P * T) ≤ low + P * R := by rw [hq]; exact Nat.div_mul_le_self _ _
  have lower : ∀ k, k * (T + 1) ≤ R → k ≤ q := fun k hk => by
    rw [hq, Nat.le_div_iff_mul_le hB]
    have e1 : k * (lowb + P * T) ≤ k * (P * (T + 1)) := Nat.mul_le_mul_left _ (by rw [Nat.mul_add]; omega)
    have e2 : k * (P * (T + 1)) = P * (k * (T + 1)) := by grind
    have e3 : P * (k * (T + 1)) ≤ P * R := Nat.mul_le_mul_left _ hk
    omega
  have qT : q * T ≤ R := by
    have e1 : P * (q * T) ≤ low + P * R := by
      have : P * (q * T) = q * (P * T) := by grind
      have : q * (P * T) ≤ q * (lowb + P * T) := Nat.mul_le_mul_left _ (by omega)
      omega
    have e2 : P * (q * T) < P * (R + 1) := by rw [Nat.mul_add]; omega
    have := Nat.lt_of_mul_lt_mul_left e2
    omega
  have r2t : r2 ≤ t1 := by
    have e1 : P * (H * H * r2) ≤ P * R := Nat.mul_le_mul_left _ (by rw [hR]; omega)
    have e2 : (lowb + P * T) * H < P * (H * H * (t1 + 1)) := by
      have a1 : lowb + P * T < P * (H * (t1 + 1)) := by
        have : T + 1 ≤ H * (t1 + 1) := by rw [hT, Nat.mul_add]; omega
        have : P * (T + 1) ≤ P * (H * (t1 + 1)) := Nat.mul_le_mul_left _ this
        rw [Nat.mul_add] at this; omega
      have a2 : (lowb + P * T) * H < P * (H * (t1 + 1)) * H := Nat.mul_lt_mul_of_pos_right a1 (by omega)
      have a3 : P * (H * (t1 + 1)) * H = P * (H * H * (t1 + 1)) := by grind
      omega
    have e3 : P * (H * H * r2) < P * (H * H * (t1 + 1)) := by omega
    have e4 := Nat.lt_of_mul_lt_mul_left e3
    have e5 := Nat.lt_of_mul_lt_mul_left e4
    omega
  have hle : h ≤ H + 1 := by
    have : h < H + 2 := by
      rw [hh, Nat.div_lt_iff_lt_mul (by omega)]
      have e1 : r2 * H ≤ t1 * H := Nat.mul_le_mul_right _ r2t
      have e2 : (H + 2) * t1 = t1 * H + 2 * t1 := by grind
      rw [e2]; omega
    omega
  have hht : h * t1 ≤ r2 * H + r1 := by rw [hh]; exact Nat.div_mul_le_self _ _
  have hRh : R = (r2 * H + r1) * H + r0 := by rw [hR]; grind
  refine ⟨q1, hle, fun hc => ?_, fun hc1 hc2 => ?_⟩
  · have qh : q < h := by
      rcases hc with hc | hc
      · omega
      · have : q * T < h * T := by omega
        exact Nat.lt_of_mul_lt_mul_right this
    refine ⟨by omega, ?_, by omega, by omega⟩
    by_cases h2 : 2 ≤ h
    · have := lower (h - 2) (by
        obtain ⟨k, rfl⟩ : ∃ k, h = k + 2 := ⟨h - 2, by omega⟩
        have ek : k + 2 - 2 = k := by omega
        rw [ek]
        have e1 : k * (T + 1) ≤ k * (t1 * H + H) := Nat.mul_le_mul_left _ (by rw [hT, Nat.mul_comm H t1]; omega)
        have e2 : k * (t1 * H + H) + 2 * t1 * H = (k + 2) * t1 * H + k * H := by grind
        have e3 : (k + 2) * t1 * H ≤ (r2 * H + r1) * H := Nat.mul_le_mul_right _ hht
        have e4 : k * H ≤ 2 * t1 * H := Nat.mul_le_mul_right _ (by omega)
        omega)
      omega
    · omega
  · refine ⟨?_, ?_⟩
    · have : q * t1 ≤ r2 * H + r1 := by
        have e1 : q * T ≤ (r2 * H + r1) * H + r0 := by rw [← hRh]; exact qT
        have e2 : q * t1 * H ≤ q * T := by
          have : q * T = q * t0 + q * t1 * H := by rw [hT]; grind
          omega
        have e3 : q * t1 * H < (r2 * H + r1 + 1) * H := by rw [Nat.add_mul (r2 * H + r1) 1 H]; omega
        have := Nat.lt_of_mul_lt_mul_right e3
        omega
      rw [hh, Nat.le_div_iff_mul_le (by omega)]; exact this
    · by_cases h1' : 1 ≤ h
      · have := lower (h - 1) (by
          obtain ⟨k, rfl⟩ : ∃ k, h = k + 1 := ⟨h - 1, by omega⟩
          have ek : k + 1 - 1 = k := by omega
          rw [ek]
          have e1 : k * (T + 1) + T = (k + 1) * T + k := by grind
          have e2 : H ≤ T := by rw [hT]; have : H * 1 ≤ H * t1 := Nat.mul_le_mul_left _ (by omega); omega
          omega)
        omega
      · omega
end Go.Proofs.YtippcalhcnjghaaDoor.Big
/- whole.guess. -/
namespace Go.Proofs.YtippcalhcnjghaaDoor
open Go.RowKit Big

/-- cells of a window of a row -/
def Win (w : World) (g off : Nat) (l : List Nat) : Prop := ∀ j (h : j < l.length), w.cell? ⟨g, off + j, none⟩ = some (.int .u32 (l[j]'h : Nat))

theorem val_top3 (B : Nat) (L : List Nat) (m : Nat) (h : L.length = m + 3) : val B L = val B (L.take m) + B ^ m * (L[m]'(by omega) + B * L[m + 1]'(by omega) + B * B * L[m + 2]'(by omega)) := by
  have e := val_take_succ B L (m + 2) (by omega)
  rw [show m + 2 + 1 = L.length by omega, List.take_length, val_take_succ B L (m + 1) (by omega), val_take_succ B L m (by omega), Nat.pow_succ, Nat.pow_succ] at e
  rw [e]; grind
theorem val_top2 (B : Nat) (L : List Nat) (m : Nat) (h : L.length = m + 2) : val B L = val B (L.take m) + B ^ m * (L[m]'(by omega) + B * L[m + 1]'(by omega)) := by
  have e := val_take_succ B L (m + 1) (by omega)
  rw [show m + 1 + 1 = L.length by omega, List.take_length, val_take_succ B L m (by omega), Nat.pow_succ] at e
  rw [e]; grind
theorem val_take_lt {L : List Nat} (s : Small H L) (m : Nat) (h : m ≤ L.length) : val H (L.take m) < H ^ m := by
  have := val_lt (B := H) (by decide) (small_take s m)
  rwa [List.length_take, Nat.min_eq_left h] at this
theorem drewN_twice (w : World) (a b : Nat) : (w.drewN a).drewN b = w.drewN (a + b) := by simp [World.drewN, Nat.add_assoc]
def RGuess (v d : Nat) (w : World) (e : Ending) (w' : World) : Prop := ∃ (k n : Nat), e = .returned (.int .u64 (k : Nat)) ∧ w' = w.drewN n ∧ k ≤ H ∧ (v / d = k ∨ v / d + 1 = k)

set_option maxRecDepth 100000 in
set_option maxHeartbeats 1600000 in
theorem guess_any (g off cap g' off' cap' m : Nat) (L B : List Nat) (w : World) (hL : L.length = m + 3) (hB : B.length = m + 2) (hw : Win w g off L) (hw' : Win w g' off' B) (sL : Small H L) (sB : Small H B)
    (ht : 2147483648 ≤ B[m + 1]'(by omega)) (hlt : val H L < val H B * H) (hc' : m + 2 ≤ cap') (hcm' : cap' ≤ 9223372036854775807) :
    Calls Tryd.prog 106 #[.slice (some ⟨g, off, none⟩) (m + 3) cap, .slice (some ⟨g', off', none⟩) (m + 2) cap'] w (RGuess (val H L) (val H B) w) := by
  have eL := val_top3 H L m hL
  have eB := val_top2 H B m hB
  have lL := val_take_lt sL m (by omega)
  have lB := val_take_lt sB m (by omega)
  have e2 := hw (m + 2) (by omega)
  have e1 := hw (m + 1) (by omega)
  have e0 := hw m (by omega)
  have f1 := hw' (m + 1) (by omega)
  have f0 := hw' m (by omega)
  have s2 := small_get sL (m + 2) (by omega)
  have s1 := small_get sL (m + 1) (by omega)
  have s0 := small_get sL m (by omega)
  have u1 := small_get sB (m + 1) (by omega)
  have u0 := small_get sB m (by omega)
  generalize L[m + 2]'(by omega) = r2 at *
  generalize L[m + 1]'(by omega) = r1 at *
  generalize L[m]'(by omega) = r0 at *
  generalize B[m + 1]'(by omega) = t1 at *
  generalize B[m]'(by omega) = t0 at *
  generalize val H (L.take m) = low at *
  generalize val H (B.take m) = lowb at *
  generalize val H L = vL at *
  generalize val H B = vB at *
  generalize H ^ m = P at *
  subst eL
  subst eB
  have M := fun h q => guess_ok (q := q) (h := h) lL lB rfl rfl s0 s1 u0 ht hlt
  obtain ⟨vq, hvq⟩ : ∃ q, q = (low + P * (r0 + H * r1 + H * H * r2)) / (lowb + P * (t0 + H * t1)) := ⟨_, rfl⟩
  have HM := hid M
  have Hvq := hid hvq
  unfold RGuess
  rw [← hvq]
  clear M hvq hlt lL lB
  unfold H at s2 s1 s0 u1 u0
  clear hw hw'
  go_enter Tryd.func106, Tryd.ntmps106
  go_wp2_with fail
  go_quiet (fail)
  rw [or_half r2 r1 (by omega) (by omega)]
  obtain ⟨hd, hhd⟩ : ∃ hd, hd = r2 * 4294967296 + r1 := ⟨_, rfl⟩
  rw [← hhd]
  have Hhd := hid hhd
  have hdl : hd ≤ 18446744073709551615 := by omega
  have htz : ((t1 : Int) == 0) = false := beq_eq_false_iff_ne.2 (by omega)
  clear hhd
  obtain ⟨q, hq⟩ : ∃ q, q = hd / t1 := ⟨_, rfl⟩
  obtain ⟨left, hleft⟩ : ∃ q, q = hd % t1 := ⟨_, rfl⟩
  have ql : q ≤ 18446744073709551615 := by rw [hq]; exact Nat.le_trans (Nat.div_le_self _ _) hdl
  have d1 : (hd : Int) / (t1 : Int) = (q : Int) := by rw [hq]; rfl
  have d2 : (hd : Int) % (t1 : Int) = (left : Int) := by rw [hleft]; rfl
  have ll : left < t1 := by rw [hleft]; exact Nat.mod_lt _ (by omega)
  have Hq := hid hq; have Hleft := hid hleft
  have D1 := hid d1; have D2 := hid d2
  clear hq hleft d1 d2
  go_wp2_with fail
  go_quiet (fail)
  rw [D1.out, D2.out, wrap_nat q (by unfold W; omega)]
  by_cases hge : H ≤ q
  · have hb : ((q : Int) / 4294967296 == 0) = false := beq_eq_false_iff_ne.2 (by unfold H at hge; omega)
    have hb' : ((q : Int) / 4294967296 != 0) = true := by simp [bne, hb]
    have hq1 : 1 ≤ (q : Int) := by unfold H at hge; omega
    go_wp2_with fail
    go_quiet (fail)
    obtain ⟨m1, m2, m3, m4⟩ := HM.out q vq (by rw [Hq.out, Hhd.out]; rfl) Hvq.out
    obtain ⟨m5, m6, m7, m8⟩ := m3 (Or.inl hge)
    have e1 : ((q : Int) - 1) = ((q - 1 : Nat) : Int) := by omega
    have E1 := hid e1
    clear e1 m1 m2 m3 m4
    go_wp2_with fail
    go_ret
    exact ⟨q - 1, _, by rw [← E1.out]; rfl, rfl, by omega, by omega⟩
  · have hb : ((q : Int) / 4294967296 == 0) = true := beq_iff_eq.2 (by unfold H at hge; omega)
    have hb' : ((q : Int) / 4294967296 != 0) = false := by simp [bne, hb]
    have hqs : q < 4294967296 := by unfold H at hge; omega
    have hp : q * t0 ≤ 4294967295 * 4294967295 := Nat.mul_le_mul (by omega) (by omega)
    have q1 : (q : Int) * (t0 : Int) ≤ 18446744065119617025 := by
      have : ((q * t0 : Nat) : Int) ≤ 18446744065119617025 := by omega
      rwa [Int.natCast_mul] at this
    have q2 : 0 ≤ (q : Int) * (t0 : Int) := by rw [← Int.natCast_mul]; omega
    obtain ⟨m1, m2, m3, m4⟩ := HM.out q vq (by rw [Hq.out, Hhd.out]; rfl) Hvq.out
    have hRT : r0 + H * r1 + H * H * r2 < q * (t0 + H * t1) ↔ left * 4294967296 + r0 < q * t0 := by
      have e : hd = t1 * q + left := by rw [Hq.out, Hleft.out]; exact (Nat.div_add_mod hd t1).symm
      have e1 : r0 + H * r1 + H * H * r2 = (hd * H) + r0 := by rw [Hhd.out]; unfold H; grind
      have e2 : hd * H = q * (H * t1) + left * 4294967296 := by rw [e]; unfold H; grind
      rw [e1, e2, Nat.mul_add]; omega
    have hor := or_half left r0 (by omega) (by omega)
    by_cases hc : left * 4294967296 + r0 < q * t0
    · obtain ⟨m5, m6, m7, m8⟩ := m3 (Or.inr (hRT.2 hc))
      have hci : ((left * 4294967296 + r0 : Nat) : Int) < (q : Int) * (t0 : Int) := by rw [← Int.natCast_mul]; omega
      have e1 : ((q : Int) - 1) = ((q - 1 : Nat) : Int) := by omega
      have hq1 : 1 ≤ (q : Int) := by omega
      have E1 := hid e1; have Hor := hid hor; have Hci := hid hci
      obtain ⟨tst, htst⟩ : ∃ b, b = decide (bits BinOp.or IntKind.u64 ((left : Int) * 4294967296) (r0 : Int) < (q : Int) * (t0 : Int)) := ⟨_, rfl⟩
      have Ht : Hid (tst = true) := by unfold Hid; rw [htst, hor]; exact decide_eq_true hci
      clear e1 hor hci m1 m2 m3 m4 hRT hc htst
      go_wp2_with fail
      go_quiet (fail)
      rw [Hor.out]
      have hci := Hci.out
      go_wp2_with fail
      go_ret
      exact ⟨q - 1, _, by rw [← E1.out]; rfl, rfl, by omega, by omega⟩
    · obtain ⟨m5, m6⟩ := m4 (by omega) (by have := mt hRT.1 hc; omega)
      have hci : ¬ ((left * 4294967296 + r0 : Nat) : Int) < (q : Int) * (t0 : Int) := by rw [← Int.natCast_mul]; omega
      have Hor := hid hor; have Hci := hid hci
      clear hor hci m1 m2 m3 m4 hRT hc
      go_wp2_with fail
      go_quiet (fail)
      rw [Hor.out]
      have hci := Hci.out
      go_wp2_with fail
      go_ret
      exact ⟨q, _, rfl, drewN_twice .., by omega, by omega⟩
end Go.Proofs.YtippcalhcnjghaaDoor
/- whole.lessBy, whole.moreBy: in place, in the midst of a row. -/
namespace Go.Proofs.YtippcalhcnjghaaDoor
open Go.RowKit Big

theorem less_step {vX vL vB o x c b r P k d b' : Nat} (hP : P = o * x + c) (h : vX + o * vB = vL + (c + b) * H ^ k) (hd : d + P % H + b = r + b' * H) :
    (vX + H ^ k * d) + o * (vB + H ^ k * x) = (vL + H ^ k * r) + (P / H + b') * H ^ (k + 1) := by
  have e : P = H * (P / H) + P % H := (Nat.div_add_mod P H).symm
  rw [Nat.pow_succ]
  generalize P / H = q at *
  generalize P % H = p at *
  have e1 : o * x + c = H * q + p := by rw [← hP, e]
  have e2 : H ^ k * (d + p + b) = H ^ k * (r + b' * H) := by rw [hd]
  have e3 : H ^ k * (o * x + c) = H ^ k * (H * q + p) := by rw [e1]
  generalize H ^ k = K at *
  simp only [Nat.mul_add] at e2 e3
  have g1 : o * (K * x) = K * (o * x) := Nat.mul_left_comm ..
  have g2 : (c + b) * K = K * c + K * b := by rw [Nat.mul_comm, Nat.mul_add]
  have g3 : (q + b') * (K * H) = K * (H * q) + K * (b' * H) := by rw [Nat.add_mul, Nat.mul_left_comm q K H, Nat.mul_left_comm b' K H, Nat.mul_comm q H]
  rw [Nat.mul_add, g1, g3]
  rw [g2] at h
  omega
theorem wrap_up (x : Int) (h0 : 0 ≤ x) (h1 : x < 18446744073709551616) : IntKind.u64.wrap x = x := by
  simp only [IntKind.wrap, IntKind.bits, IntKind.signed]; simp; omega
theorem wrap_down (x : Int) (h0 : -18446744073709551616 ≤ x) (h1 : x < 0) : IntKind.u64.wrap x = x + 18446744073709551616 := by
  simp only [IntKind.wrap, IntKind.bits, IntKind.signed]; simp; omega
/-- the digit that is left, and what is borrowed -/
theorem left_digit (r p b : Nat) (hr : r < 4294967296) (hp : p < 4294967296) (hb : b ≤ 1) : ∃ d b', d < 4294967296 ∧ b' ≤ 1 ∧ d + p + b = r + b' * 4294967296 ∧
    IntKind.u64.wrap (IntKind.u64.wrap ((r : Int) - (p : Int)) - (b : Int)) % 4294967296 = (d : Int) ∧ IntKind.u64.wrap (IntKind.u64.wrap ((r : Int) - (p : Int)) - (b : Int)) / 9223372036854775808 = (b' : Int) := by
  by_cases h : p + b ≤ r
  · refine ⟨r - p - b, 0, by omega, by omega, by omega, ?_⟩
    rw [wrap_up ((r : Int) - (p : Int)) (by omega) (by omega), wrap_up _ (by omega) (by omega)]
    have e : (r : Int) - (p : Int) - (b : Int) = ((r - p - b : Nat) : Int) := by omega
    rw [e]
    have l : r - p - b < 4294967296 := by omega
    generalize r - p - b = t at *
    exact ⟨by omega, by omega⟩
  · refine ⟨r + 4294967296 - p - b, 1, by omega, by omega, by omega, ?_⟩
    have hw : IntKind.u64.wrap (IntKind.u64.wrap ((r : Int) - (p : Int)) - (b : Int)) = (r : Int) - (p : Int) - (b : Int) + 18446744073709551616 := by
      by_cases h2 : p ≤ r
      · rw [wrap_up ((r : Int) - (p : Int)) (by omega) (by omega), wrap_down _ (by omega) (by omega)]
      · rw [wrap_down ((r : Int) - (p : Int)) (by omega) (by omega), wrap_up _ (by omega) (by omega)]; omega
    rw [hw]
    have e : (r : Int) - (p : Int) - (b : Int) = ((r + 4294967296 - p - b : Nat) : Int) - 4294967296 := by omega
    rw [e]
    have l : r + 4294967296 - p - b < 4294967296 := by omega
    generalize r + 4294967296 - p - b = t at *
    exact ⟨by omega, by omega⟩

theorem less_last {vX vL vB o c b r d b' K : Nat} (h : vX + o * vB = vL + (c + b) * K) (hd : d + c + b = r + b' * 4294967296) : (vX + K * d) + o * vB = (vL + K * r) + b' * (K * H) := by
  have e : K * (d + c + b) = K * (r + b' * H) := by rw [hd]; rfl
  simp only [Nat.mul_add] at e
  have g : (c + b) * K = K * c + K * b := by rw [Nat.mul_comm, Nat.mul_add]
  have g2 : b' * (K * H) = K * (b' * H) := Nat.mul_left_comm ..
  omega
theorem less_bool {vX vL p K b : Nat} (h : vX + p = vL + b * K) (hx : vX < K) (hb : b ≤ 1) : b = if vL < p then 1 else 0 := by
  rcases (by omega : b = 0 ∨ b = 1) with rfl | rfl
  · rw [if_neg (by omega)]
  · rw [if_pos (by omega)]
theorem row_set {α : Type} (R X : List α) (i k : Nat) (d : α) (hX : X.length = k) (h : i + k < R.length) : (R.take i ++ X ++ R.drop (i + k)).set (i + k) d = R.take i ++ (X ++ [d]) ++ R.drop (i + (k + 1)) := by
  rw [List.set_append_right _ _ (by simp; omega)]
  have e : i + k - (R.take i ++ X).length = 0 := by simp; omega
  rw [e, List.drop_eq_getElem_cons h, List.set_cons_zero]
  simp [Nat.add_assoc]

def RLess (B0 g N cap i m o : Nat) (R L Bl : List Nat) (w : World) (e : Ending) (w' : World) : Prop :=
  ∃ X, X.length = m + 1 ∧ Small H X ∧ e = .returned (.bool (decide (val H L < o * val H Bl))) ∧
      val H X + o * val H Bl = val H L + (if val H L < o * val H Bl then H ^ (m + 1) else 0) ∧ Own w' B0 67 .u32 (.slice (some ⟨g, 0, none⟩) N cap) (R.take i ++ X ++ R.drop (i + m + 1)) ∧ w.grownBy w' (some g)

set_option maxRecDepth 100000 in
set_option maxHeartbeats 3200000 in
theorem lessBy_any (B0 g N cap i m cw g' off' cb o : Nat) (R L Bl : List Nat) (w : World) (hown : Own w B0 67 .u32 (.slice (some ⟨g, 0, none⟩) N cap) R) (hN : R.length = N) (hi : i + m + 1 ≤ N) (hL : L = (R.drop i).take (m + 1))
    (hBl : Bl.length = m) (hw : Win w g' off' Bl) (hgg : g' ≠ g) (sR : Small H R) (sB : Small H Bl) (ho : o ≤ H) (hNm : N ≤ 9223372036854775806) :
    Calls Tryd.prog 107 #[.slice (some ⟨g, i, none⟩) (m + 1) cw, .slice (some ⟨g', off', none⟩) m cb, .int .u64 (o : Nat)] w (RLess B0 g N cap i m o R L Bl w) := by
  have HL := hid hL
  have HN := hid hN
  have HBl := hid hBl
  have Hw := hid hw
  clear hL hN hBl hw
  unfold H at ho
  go_enter Tryd.func107, Tryd.ntmps107
  go_wp2_with fail
  go_loopw [7, 8, 16] (fun c b j wr => ∃ (k c' b' : Nat) (X : List Nat), k ≤ m ∧ j = .int .i64 (k : Nat) ∧ c = .int .u64 (c' : Nat) ∧ c' < 4294967296 ∧ b = .int .u64 (b' : Nat) ∧ b' ≤ 1 ∧ Hid (X.length = k) ∧ Small H X ∧
      Own wr B0 67 .u32 (.slice (some ⟨g, 0, none⟩) N cap) (R.take i ++ X ++ R.drop (i + k)) ∧ Hid (val H X + o * val H (Bl.take k) = val H (L.take k) + (c' + b') * H ^ k) ∧ w.grownBy wr (some g)) (fun _ _ j _ => m - (intOf j).toNat)
  case atStart => exact ⟨0, 0, 0, [], Nat.zero_le _, rfl, rfl, by omega, rfl, by omega, rfl, small_nil _, by simpa using hown, by unfold Hid; simp [val], World.grownBy.refl _ _⟩
  case round =>
    obtain ⟨k, c', b', X, hk, rfl, rfl, hc', rfl, hb', hX, sX, hown', hv, hgr⟩ := hrel
    by_cases hkm : k < m
    · have hlen : (R.take i ++ X ++ R.drop (i + k)).length = N := by have := HN.out; have := hX.out; simp; omega
      have hkq : i + k < (R.take i ++ X ++ R.drop (i + k)).length := by omega
      obtain ⟨cc0, f0⟩ := hown'.cell (i + k) hkq
      have hiR : i + k < R.length := by rw [HN.out]; omega
      have eq1 : (R.take i ++ X ++ R.drop (i + k))[i + k] = R[i + k] := by
        have h1 := hX.out
        rw [List.getElem_append_right (by simp; omega)]
        simp only [List.getElem_drop]
        congr 1
        simp; omega
      rw [eq1] at cc0
      have r0 := small_get sR (i + k) hiR
      have hkB : k < Bl.length := by rw [HBl.out]; omega
      have e1 := (hgr.block g' (World.block_lt_of_cell? w _ (Hw.out k hkB)) (by simp; omega))
      have e2 : wr.cell? ⟨g', off' + k, none⟩ = some (.int .u32 (Bl[k] : Nat)) := (World.cell?_of_block (w := w) e1).trans (Hw.out k hkB)
      have x0 := small_get sB k hkB
      obtain ⟨r, hr⟩ : ∃ r, r = R[i + k] := ⟨_, rfl⟩
      obtain ⟨x, hx⟩ : ∃ x, x = Bl[k] := ⟨_, rfl⟩
      rw [← hr] at cc0 r0
      rw [← hx] at e2 x0
      unfold H at r0 x0
      have Hr := hid hr; have Hx := hid hx; have Hlen := hid hlen; have Heq := hid eq1
      clear hr hx hlen eq1 e1
      have p0 : o * x + c' ≤ 4294967296 * 4294967295 + 4294967295 := Nat.add_le_add (Nat.mul_le_mul ho (by omega)) (by omega)
      obtain ⟨P, hP⟩ : ∃ P, P = o * x + c' := ⟨_, rfl⟩
      rw [← hP] at p0
      have q1 : (o : Int) * (x : Int) ≤ 18446744069414584320 := by
        have : ((o * x : Nat) : Int) ≤ 18446744069414584320 := by have := Nat.mul_le_mul ho (show x ≤ 4294967295 by omega); omega
        rwa [Int.natCast_mul] at this
      have q2 : 0 ≤ (o : Int) * (x : Int) := by rw [← Int.natCast_mul]; omega
      have q3 : (o : Int) * (x : Int) + (c' : Int) = (P : Int) := by rw [hP]; simp
      have q4 : (o : Int) * (x : Int) + (c' : Int) ≤ 18446744073709551615 := by rw [q3]; omega
      have HP := hid hP; have Q3 := hid q3
      clear hP q3
      go_wp2
      have r1 : ((o : Int) * (x : Int) + (c' : Int)) / 4294967296 = ((P / 4294967296 : Nat) : Int) := by rw [Q3.out]; omega
      have r2 : ((o : Int) * (x : Int) + (c' : Int)) % 4294967296 = ((P % 4294967296 : Nat) : Int) := by rw [Q3.out]; omega
      rw [r1, r2]
      obtain ⟨d, b2, hd, hb2, hdd, w1, w2⟩ := left_digit r (P % 4294967296) b' r0 (Nat.mod_lt _ (by decide)) hb'
      rw [w1, w2]
      have hq : P / 4294967296 < 4294967296 := by omega
      have hset := hown'.set (i + k) d
      rw [row_set R X i k d hX.out hiR] at hset
      have hLk : L[k]'(by rw [HL.out]; simp; omega) = r := by rw [Hr.out]; simp [HL.out]
      have hv' : val H (X ++ [d]) + o * val H (Bl.take (k + 1)) = val H (L.take (k + 1)) + (P / 4294967296 + b2) * H ^ (k + 1) := by
        rw [val_snoc, hX.out, val_take_succ H Bl k hkB, ← Hx.out, val_take_succ H L k (by rw [HL.out]; simp; omega), hLk]
        exact less_step HP.out hv.out hdd
      clear w1 w2 r1 r2 hLk
      go_roundw
      case rel => exact ⟨k + 1, P / 4294967296, b2, X ++ [d], by omega, by go_num, rfl, hq, rfl, hb2, by have := hX.out; unfold Hid; simp; omega, small_snoc sX hd, hset.1, hv', grown_trans hgr hset.2⟩
      case measure => (simp [intOf] <;> omega)
    · obtain rfl : k = m := by omega
      have hlen : (R.take i ++ X ++ R.drop (i + k)).length = N := by have := HN.out; have := hX.out; simp; omega
      have hkq : i + k < (R.take i ++ X ++ R.drop (i + k)).length := by omega
      obtain ⟨cc0, f0⟩ := hown'.cell (i + k) hkq
      have hiR : i + k < R.length := by rw [HN.out]; omega
      have eq1 : (R.take i ++ X ++ R.drop (i + k))[i + k] = R[i + k] := by
        have h1 := hX.out
        rw [List.getElem_append_right (by simp; omega)]
        simp only [List.getElem_drop]
        congr 1
        simp; omega
      rw [eq1] at cc0
      have r0 := small_get sR (i + k) hiR
      obtain ⟨r, hr⟩ : ∃ r, r = R[i + k] := ⟨_, rfl⟩
      rw [← hr] at cc0 r0
      unfold H at r0
      have hLk : L[k]'(by rw [HL.out]; simp; omega) = r := by rw [hr]; simp [HL.out]
      obtain ⟨d, b2, hd, hb2, hdd, w1, w2⟩ := left_digit r c' b' r0 hc' hb'
      have hset := hown'.set (i + k) d
      rw [row_set R X i k d hX.out hiR] at hset
      have hv' : val H (X ++ [d]) + o * val H Bl = val H L + b2 * H ^ (k + 1) := by
        have e1 := val_take_succ H L k (by rw [HL.out]; simp; omega)
        rw [show L.take (k + 1) = L by rw [List.take_of_length_le]; rw [HL.out]; simp; omega, hLk] at e1
        have e2 := hv.out
        rw [show Bl.take k = Bl by rw [List.take_of_length_le]; rw [HBl.out]; exact Nat.le_refl _] at e2
        rw [val_snoc, hX.out, e1]
        rw [Nat.pow_succ]; exact less_last e2 hdd
      have hlt : val H (X ++ [d]) < H ^ (k + 1) := by
        have := val_lt (B := H) (by decide) (small_snoc sX hd)
        rwa [List.length_append, hX.out] at this
      have hb2' : b2 = if val H L < o * val H Bl then 1 else 0 := less_bool hv' hlt hb2
      have HV := hid hv'; have Hset := hid hset; have W1 := hid w1; have W2 := hid w2; have Hb2 := hid hb2'; have Hlen := hid hlen; have Heq := hid eq1; have Hhlt := hid hlt
      clear hr hLk hv' hset w1 w2 hb2' hdd hlen eq1 hlt
      go_wp2
      rw [W1.out, W2.out]
      go_ret
      have hset := Hset.out
      have hv := HV.out
      have hb := Hb2.out
      by_cases hlt : val H L < o * val H Bl
      · rw [if_pos hlt] at hb
        subst hb
        refine ⟨X ++ [d], by simp [hX.out], small_snoc sX hd, ?_, ?_, hset.1, grown_trans hgr hset.2⟩
        · rw [decide_eq_true hlt]; rfl
        · rw [if_pos hlt]; omega
      · rw [if_neg hlt] at hb
        subst hb
        refine ⟨X ++ [d], by simp [hX.out], small_snoc sX hd, ?_, ?_, hset.1, grown_trans hgr hset.2⟩
        · rw [decide_eq_false hlt]; rfl
        · rw [if_neg hlt]; omega

theorem more_step {vX vL vB x c r P K : Nat} (hP : P = r + x + c) (h : vX + c * K = vL + vB) : (vX + K * (P % H)) + P / H * (K * H) = (vL + K * r) + (vB + K * x) := by
  have e : P = H * (P / H) + P % H := (Nat.div_add_mod P H).symm
  generalize P / H = q at *
  generalize P % H = p at *
  have e1 : K * (r + x + c) = K * (H * q + p) := by rw [← hP, e]
  simp only [Nat.mul_add] at e1
  have g1 : q * (K * H) = K * (H * q) := by rw [Nat.mul_left_comm, Nat.mul_comm q H]
  have g2 : c * K = K * c := Nat.mul_comm ..
  omega
def RMore (B0 g N cap i m : Nat) (R L Bl : List Nat) (w : World) (e : Ending) (w' : World) : Prop :=
  ∃ X c, e = .returned (.tuple #[]) ∧ X.length = m + 1 ∧ Small H X ∧ val H X + c * H ^ (m + 1) = val H L + val H Bl ∧ Own w' B0 67 .u32 (.slice (some ⟨g, 0, none⟩) N cap) (R.take i ++ X ++ R.drop (i + m + 1)) ∧ w.grownBy w' (some g)

set_option maxRecDepth 100000 in
set_option maxHeartbeats 3200000 in
theorem moreBy_any (B0 g N cap i m cw g' off' cb : Nat) (R L Bl : List Nat) (w : World) (hown : Own w B0 67 .u32 (.slice (some ⟨g, 0, none⟩) N cap) R) (hN : R.length = N) (hi : i + m + 1 ≤ N) (hL : L = (R.drop i).take (m + 1))
    (hBl : Bl.length = m) (hw : Win w g' off' Bl) (hgg : g' ≠ g) (sR : Small H R) (sB : Small H Bl) (hNm : N ≤ 9223372036854775806) :
    Calls Tryd.prog 108 #[.slice (some ⟨g, i, none⟩) (m + 1) cw, .slice (some ⟨g', off', none⟩) m cb] w (RMore B0 g N cap i m R L Bl w) := by
  have HL := hid hL
  have HN := hid hN
  have HBl := hid hBl
  have Hw := hid hw
  clear hL hN hBl hw
  go_enter Tryd.func108, Tryd.ntmps108
  go_wp2_with fail
  go_loopw [4, 10] (fun c j wr => ∃ (k c' : Nat) (X : List Nat), k ≤ m ∧ j = .int .i64 (k : Nat) ∧ c = .int .u64 (c' : Nat) ∧ c' ≤ 1 ∧ Hid (X.length = k) ∧ Small H X ∧
      Own wr B0 67 .u32 (.slice (some ⟨g, 0, none⟩) N cap) (R.take i ++ X ++ R.drop (i + k)) ∧ Hid (val H X + c' * H ^ k = val H (L.take k) + val H (Bl.take k)) ∧ w.grownBy wr (some g)) (fun _ j _ => m - (intOf j).toNat)
  case atStart => exact ⟨0, 0, [], Nat.zero_le _, rfl, rfl, by omega, rfl, small_nil _, by simpa using hown, by unfold Hid; simp [val], World.grownBy.refl _ _⟩
  case round =>
    obtain ⟨k, c', X, hk, rfl, rfl, hc', hX, sX, hown', hv, hgr⟩ := hrel
    have hlen : (R.take i ++ X ++ R.drop (i + k)).length = N := by have := HN.out; have := hX.out; simp; omega
    have hkq : i + k < (R.take i ++ X ++ R.drop (i + k)).length := by omega
    obtain ⟨cc0, f0⟩ := hown'.cell (i + k) hkq
    have hiR : i + k < R.length := by rw [HN.out]; omega
    have eq1 : (R.take i ++ X ++ R.drop (i + k))[i + k] = R[i + k] := by
      have h1 := hX.out
      rw [List.getElem_append_right (by simp; omega)]
      simp only [List.getElem_drop]
      congr 1
      simp; omega
    rw [eq1] at cc0
    have r0 := small_get sR (i + k) hiR
    obtain ⟨r, hr⟩ : ∃ r, r = R[i + k] := ⟨_, rfl⟩
    rw [← hr] at cc0 r0
    have hLk : Hid (L[k]'(by rw [HL.out]; simp; omega) = r) := by unfold Hid; rw [hr]; simp [HL.out]
    unfold H at r0
    have Hlen := hid hlen; have Heq := hid eq1
    clear hr hlen eq1
    by_cases hkm : k < m
    · have hkB : k < Bl.length := by rw [HBl.out]; omega
      have e1 := (hgr.block g' (World.block_lt_of_cell? w _ (Hw.out k hkB)) (by simp; omega))
      have e2 : wr.cell? ⟨g', off' + k, none⟩ = some (.int .u32 (Bl[k] : Nat)) := (World.cell?_of_block (w := w) e1).trans (Hw.out k hkB)
      have x0 := small_get sB k hkB
      obtain ⟨x, hx⟩ : ∃ x, x = Bl[k] := ⟨_, rfl⟩
      rw [← hx] at e2 x0
      unfold H at x0
      have Hx := hid hx
      clear hx e1
      obtain ⟨P, hP⟩ : ∃ P, P = r + x + c' := ⟨_, rfl⟩
      have q3 : (r : Int) + (x : Int) + (c' : Int) = (P : Int) := by rw [hP]; simp
      have hPl : P ≤ 8589934591 := by omega
      have HP := hid hP; have Q3 := hid q3
      clear hP q3
      go_wp2
      have r1 : ((r : Int) + (x : Int) + (c' : Int)) / 4294967296 = ((P / 4294967296 : Nat) : Int) := by rw [Q3.out]; omega
      have r2 : ((r : Int) + (x : Int) + (c' : Int)) % 4294967296 = ((P % 4294967296 : Nat) : Int) := by rw [Q3.out]; omega
      rw [r1, r2]
      have hset := hown'.set (i + k) (P % 4294967296)
      rw [row_set R X i k _ hX.out hiR] at hset
      have hv' : val H (X ++ [P % 4294967296]) + P / 4294967296 * H ^ (k + 1) = val H (L.take (k + 1)) + val H (Bl.take (k + 1)) := by
        rw [val_snoc, hX.out, val_take_succ H Bl k hkB, ← Hx.out, val_take_succ H L k (by rw [HL.out]; simp; omega), hLk.out, Nat.pow_succ]
        exact more_step HP.out hv.out
      clear r1 r2
      go_roundw
      case rel => exact ⟨k + 1, P / 4294967296, X ++ [P % 4294967296], by omega, by go_num, rfl, by omega, by have := hX.out; unfold Hid; simp; omega, small_snoc sX (Nat.mod_lt _ (by decide)), hset.1, hv', grown_trans hgr hset.2⟩
      case measure => (simp [intOf] <;> omega)
    · obtain rfl : k = m := by omega
      obtain ⟨P, hP⟩ : ∃ P, P = r + 0 + c' := ⟨_, rfl⟩
      have hset := hown'.set (i + k) (P % 4294967296)
      rw [row_set R X i k _ hX.out hiR] at hset
      have hv' : val H (X ++ [P % 4294967296]) + P / 4294967296 * H ^ (k + 1) = val H L + val H Bl := by
        have e1 := val_take_succ H L k (by rw [HL.out]; simp; omega)
        rw [show L.take (k + 1) = L by rw [List.take_of_length_le]; rw [HL.out]; simp; omega, hLk.out] at e1
        have e2 := hv.out
        rw [show Bl.take k = Bl by rw [List.take_of_length_le]; rw [HBl.out]; exact Nat.le_refl _] at e2
        rw [val_snoc, hX.out, e1, Nat.pow_succ]
        have := more_step (x := 0) hP e2
        rw [Nat.mul_zero, Nat.add_zero] at this
        exact this
      have hPi : (P : Int) = (r : Int) + (c' : Int) := by rw [hP]; simp
      have HV := hid hv'; have Hset := hid hset; have HPi := hid hPi
      have hPl : P ≤ 4294967296 := by omega
      clear hv' hset hPi hP
      go_wp2
      go_end0
      have hmod : ((r : Int) + (c' : Int)) % 4294967296 = ((P % 4294967296 : Nat) : Int) := by rw [← HPi.out]; omega
      rw [hmod]
      exact ⟨X ++ [P % 4294967296], P / 4294967296, rfl, by simp [hX.out], small_snoc sX (Nat.mod_lt _ (by decide)), HV.out, Hset.out.1, grown_trans hgr Hset.out.2⟩
end Go.Proofs.YtippcalhcnjghaaDoor
/- whole.takeOff: a divisor is taken off a row's window as often as it goes. -/
namespace Go.Proofs.YtippcalhcnjghaaDoor
open Go.RowKit Big

theorem Own.drewN {w : World} {base : Nat} {e : TypeId} {k : IntKind} {v : Value} {l : List Nat} (h : Own w base e k v l) (n : Nat) : Own (w.drewN n) base e k v l := h
theorem off_right {vL vB k vX : Nat} (hk : vL / vB = k) (hv : vX + k * vB = vL) : vX = vL % vB := by
  have := Nat.div_add_mod vL vB
  rw [hk, Nat.mul_comm] at this; omega
theorem off_less {vL vB k : Nat} (hB : 0 < vB) (hk : vL / vB + 1 = k) : vL < k * vB := by
  rw [← hk]
  have := Nat.lt_mul_div_succ vL hB
  rwa [Nat.mul_comm] at this
theorem off_ge {vL vB k : Nat} (hk : vL / vB = k) : ¬ vL < k * vB := by
  have := Nat.div_mul_le_self vL vB
  rw [hk] at this; omega
theorem off_back {vL vB k vX vY c K : Nat} (hB : 0 < vB) (hk : vL / vB + 1 = k) (hX : vX + k * vB = vL + K) (hY : vY + c * K = vX + vB) (hYK : vY < K) (hBK : vB < K) : vY = vL % vB := by
  have h1 := Nat.div_add_mod vL vB
  have h2 := Nat.mod_lt vL hB
  have h3 : k * vB = vB * (vL / vB) + vB := by rw [← hk, Nat.add_mul, Nat.mul_comm]; omega
  have h4 : vY + c * K = vL % vB + K := by omega
  have : c = 1 := by
    rcases (by omega : c = 0 ∨ c = 1 ∨ 2 ≤ c) with e | e | e
    · subst e; omega
    · exact e
    · have : 2 * K ≤ c * K := Nat.mul_le_mul_right _ e
      omega
  subst this; omega

theorem row_mid (R X : List Nat) (i n : Nat) (hX : X.length = n) (hi : i + n ≤ R.length) : ((R.take i ++ X ++ R.drop (i + n)).drop i).take n = X := by
  have e : (R.take i).length = i := by simp; omega
  rw [List.append_assoc, List.drop_append_of_le_length (by omega), List.drop_of_length_le (by omega), List.nil_append, List.take_append_of_le_length (by omega), List.take_of_length_le (by omega)]
theorem row_twice (R X Y : List Nat) (i n : Nat) (hX : X.length = n) (hi : i + n ≤ R.length) : (R.take i ++ X ++ R.drop (i + n)).take i ++ Y ++ (R.take i ++ X ++ R.drop (i + n)).drop (i + n) = R.take i ++ Y ++ R.drop (i + n) := by
  have e : (R.take i).length = i := by simp; omega
  have e1 : (R.take i ++ X ++ R.drop (i + n)).take i = R.take i := by rw [List.append_assoc, List.take_append_of_le_length (by omega), List.take_of_length_le (by omega)]
  have e2 : (R.take i ++ X ++ R.drop (i + n)).drop (i + n) = R.drop (i + n) := by
    rw [List.drop_append, List.drop_of_length_le (by simp; omega)]
    simp [hX, show min i R.length = i by omega]
  rw [e1, e2]
theorem row_again {w : World} {B0 g N cap i n : Nat} {R X Y : List Nat} (h : Own w B0 67 .u32 (.slice (some ⟨g, 0, none⟩) N cap) ((R.take i ++ X ++ R.drop (i + n + 1)).take i ++ Y ++ (R.take i ++ X ++ R.drop (i + n + 1)).drop (i + n + 1)))
    (hX : X.length = n + 1) (_ : Y.length = n + 1) (hi : i + n + 1 ≤ N) (hN : R.length = N) : Own w B0 67 .u32 (.slice (some ⟨g, 0, none⟩) N cap) (R.take i ++ Y ++ R.drop (i + n + 1)) := by
  have := row_twice R X Y i (n + 1) hX (by omega)
  rw [← Nat.add_assoc] at this
  rwa [this] at h
def ROff (B0 g N cap i m : Nat) (R L Bl : List Nat) (w : World) (e : Ending) (w' : World) : Prop :=
  ∃ X, X.length = m + 1 ∧ Small H X ∧ e = .returned (.int .u32 (val H L / val H Bl : Nat)) ∧ val H X = val H L % val H Bl ∧ Own w' B0 67 .u32 (.slice (some ⟨g, 0, none⟩) N cap) (R.take i ++ X ++ R.drop (i + m + 1)) ∧ w.grownBy w' (some g)

theorem drewN_grown (w : World) (n : Nat) (row : Option Nat) : w.grownBy (w.drewN n) row := ⟨rfl, rfl, rfl, Nat.le_refl _, fun _ _ _ => rfl⟩

set_option maxRecDepth 100000 in
set_option maxHeartbeats 1600000 in
theorem takeOff_any (B0 g N cap i m cw g' off' cb : Nat) (R L Bl : List Nat) (w : World) (hown : Own w B0 67 .u32 (.slice (some ⟨g, 0, none⟩) N cap) R) (hN : R.length = N) (hi : i + (m + 2) + 1 ≤ N) (hL : L = (R.drop i).take (m + 2 + 1))
    (hBl : Bl.length = m + 2) (hw : Win w g' off' Bl) (hgg : g' ≠ g) (sR : Small H R) (sB : Small H Bl) (ht : 2147483648 ≤ Bl[m + 1]'(by omega)) (hlt : val H L < val H Bl * H) (hNm : N ≤ 9223372036854775806) (hcb : m + 2 ≤ cb) (hcb' : cb ≤ 9223372036854775807) :
    Calls Tryd.prog 98 #[.slice (some ⟨g, i, none⟩) (m + 2 + 1) cw, .slice (some ⟨g', off', none⟩) (m + 2) cb] w (ROff B0 g N cap i (m + 2) R L Bl w) := by
  have hLl : L.length = m + 3 := by rw [hL]; simp; omega
  have sL : Small H L := by rw [hL]; exact small_take (small_drop sR _) _
  have hwin : Win w g i L := fun j hj => by
    have h1 := (hown.cell (i + j) (by omega)).1
    rw [h1]
    simp [hL]
  have hB0 : 0 < val H Bl := by
    have := val_top2 H Bl m hBl
    have h2 : 0 < H ^ m * (Bl[m]'(by omega) + H * Bl[m + 1]'(by omega)) := Nat.mul_pos (Nat.pow_pos (by decide)) (by unfold H; omega)
    omega
  have hg := guess_any g i cw g' off' cb m L Bl w hLl hBl hwin hw sL sB ht hlt hcb hcb'
  have hl : ∀ n o, o ≤ H → Calls Tryd.prog 107 #[.slice (some ⟨g, i, none⟩) (m + 2 + 1) cw, .slice (some ⟨g', off', none⟩) (m + 2) cb, .int .u64 (o : Nat)] (w.drewN n) (RLess B0 g N cap i (m + 2) o R L Bl (w.drewN n)) := fun n o ho =>
    lessBy_any B0 g N cap i (m + 2) cw g' off' cb o R L Bl (w.drewN n) (hown.drewN n) hN hi hL hBl hw hgg sR sB ho hNm
  have hqH : val H L / val H Bl < 4294967296 := by rw [Nat.div_lt_iff_lt_mul hB0, Nat.mul_comm]; exact hlt
  have hlB := val_lt (B := H) (by decide) sB
  rw [hBl] at hlB
  have hm : ∀ (X : List Nat) w', Own w' B0 67 .u32 (.slice (some ⟨g, 0, none⟩) N cap) (R.take i ++ X ++ R.drop (i + (m + 2) + 1)) → X.length = m + 2 + 1 → Small H X → w.grownBy w' (some g) →
      Calls Tryd.prog 108 #[.slice (some ⟨g, i, none⟩) (m + 2 + 1) cw, .slice (some ⟨g', off', none⟩) (m + 2) cb] w' (RMore B0 g N cap i (m + 2) (R.take i ++ X ++ R.drop (i + (m + 2) + 1)) X Bl w') := fun X w' ho hX sX hgr =>
    moreBy_any B0 g N cap i (m + 2) cw g' off' cb _ X Bl w' ho (by simp; omega) hi (by have := row_mid R X i (m + 2 + 1) hX (by omega); rw [← Nat.add_assoc] at this; exact this.symm) hBl
      (fun j hj => (World.cell?_of_block (w := w) (hgr.block g' (World.block_lt_of_cell? w _ (hw j hj)) (by simp; omega))).trans (hw j hj)) hgg (small_append (small_append (small_take sR _) sX) (small_drop sR _)) sB hNm
  have Hg := hid hg; have Hl := hid hl; have Hm := hid hm; have HL := hid hL; have HN := hid hN; have HBl := hid hBl; have Hw := hid hw; have HLl := hid hLl
  have HlB := hid hlB
  clear hg hl hm hL hN hBl hw hLl hwin hlB hcb hcb' hlt ht
  go_enter Tryd.func98, Tryd.ntmps98
  go_wp2_with fail
  refine Hg.out.mono ?_
  rintro e w1 ⟨k, n, rfl, rfl, hk, hor⟩
  go_wp2_with fail
  refine (Hl.out n k hk).mono ?_
  rintro e w2 ⟨X, hX, sX, rfl, hv, hown2, hgr2⟩
  have HX := hid hX
  rcases hor with hor | hor
  · rw [decide_eq_false (off_ge hor)]
    rw [if_neg (off_ge hor), Nat.add_zero] at hv
    have hres := hid (off_right hor hv)
    have hq : k < 4294967296 := by omega
    have Hor := hid hor
    clear hor hv hX
    go_wp2_with fail
    go_ret
    exact ⟨X, HX.out, sX, by rw [Hor.out]; rfl, hres.out, hown2, grown_trans (drewN_grown w n _) hgr2⟩
  · rw [decide_eq_true (off_less hB0 hor)]
    rw [if_pos (off_less hB0 hor)] at hv
    have hgr : w.grownBy w2 (some g) := grown_trans (drewN_grown w n _) hgr2
    have hk1 : 1 ≤ k := by rw [← hor]; exact Nat.succ_pos _
    have hk2 : k ≤ 4294967296 := hk
    have hk3 : ((k : Int) - 1) = ((k - 1 : Nat) : Int) := by omega
    have hk4 : k - 1 = val H L / val H Bl := by rw [← hor]; rfl
    have Hk3 := hid hk3; have Hk4 := hid hk4
    clear hk3 hk4
    have Hor := hid hor; have Hv := hid hv
    clear hor hv hX
    go_wp2_with fail
    refine (Hm.out X w2 hown2 HX.out sX hgr).mono ?_
    rintro e w3 ⟨Y, c, rfl, hY, sY, hvY, hown3, hgr3⟩
    have hYl := val_lt (B := H) (by decide) sY
    rw [hY] at hYl
    have hres := hid (off_back hB0 Hor.out Hv.out hvY hYl (Nat.lt_of_lt_of_le HlB.out (Nat.pow_le_pow_right (by decide) (by omega))))
    have HY := hid hY
    have hown3' := row_again hown3 HX.out HY.out hi HN.out
    clear hY hvY hYl hown3 hown2
    go_wp2_with fail
    go_ret
    rw [Hk3.out, Hk4.out]
    exact ⟨Y, HY.out, sY, rfl, hres.out, hown3', grown_trans hgr hgr3⟩
end Go.Proofs.YtippcalhcnjghaaDoor
/- whole.shiftUp: bits moved up. -/
namespace Go.Proofs.YtippcalhcnjghaaDoor
open Go.RowKit Big

theorem pow_split (s : Nat) (h : s ≤ 31) : 4294967296 = 2 ^ (32 - s) * 2 ^ s := by rw [← Nat.pow_add, show 32 - s + s = 32 by omega]
theorem shl_mod (x s : Nat) (h : s ≤ 31) : x * 2 ^ s % 4294967296 = 2 ^ s * (x % 2 ^ (32 - s)) := by rw [pow_split s h, Nat.mul_mod_mul_right, Nat.mul_comm]
theorem shl_div (x s : Nat) (h : s ≤ 31) : x * 2 ^ s / 4294967296 = x / 2 ^ (32 - s) := by rw [pow_split s h, Nat.mul_div_mul_right _ _ (Nat.two_pow_pos s)]
theorem shl_or (x s low : Nat) (h : s ≤ 31) (hl : low < 2 ^ s) : bits BinOp.or IntKind.u32 ((x : Int) * 2 ^ s % 4294967296) (low : Int) = ((x * 2 ^ s % 4294967296 + low : Nat) : Int) := by
  have hp : 2 ^ s ≤ 2 ^ 31 := Nat.pow_le_pow_right (by decide) h
  have e : (x : Int) * 2 ^ s % 4294967296 = ((x * 2 ^ s % 4294967296 : Nat) : Int) := by simp
  rw [e, u32_or_nat _ _ (by omega) (by omega)]
  rw [shl_mod x s h, Nat.two_pow_add_eq_or_of_lt hl]
theorem up_digit (x s low : Nat) (h : s ≤ 31) (hx : x < 4294967296) (hl : low < 2 ^ s) : x * 2 ^ s % 4294967296 + low < 4294967296 ∧ x / 2 ^ (32 - s) < 2 ^ s ∧ x / 2 ^ (32 - s) < 4294967296 := by
  have e := pow_split s h
  have hp : 0 < 2 ^ (32 - s) := Nat.two_pow_pos _
  refine ⟨?_, ?_, Nat.lt_of_le_of_lt (Nat.div_le_self _ _) hx⟩
  · rw [shl_mod x s h]
    have h1 : x % 2 ^ (32 - s) + 1 ≤ 2 ^ (32 - s) := Nat.mod_lt _ hp
    have h2 : 2 ^ s * (x % 2 ^ (32 - s) + 1) ≤ 2 ^ s * 2 ^ (32 - s) := Nat.mul_le_mul_left _ h1
    rw [Nat.mul_add, Nat.mul_comm (2 ^ s) (2 ^ (32 - s)), ← e] at h2
    omega
  · rw [Nat.div_lt_iff_lt_mul hp, Nat.mul_comm, ← e]; exact hx
theorem up_step {vX vL x s low K d : Nat} (h : s ≤ 31) (hd : d = x * 2 ^ s % 4294967296 + low) (hv : vX + K * low = vL * 2 ^ s) : (vX + K * d) + K * H * (x / 2 ^ (32 - s)) = (vL + K * x) * 2 ^ s := by
  have e := Nat.div_add_mod (x * 2 ^ s) 4294967296
  rw [shl_div x s h] at e
  have e2 : K * (4294967296 * (x / 2 ^ (32 - s)) + x * 2 ^ s % 4294967296) = K * (x * 2 ^ s) := by rw [e]
  rw [Nat.add_mul, ← hv, hd, Nat.mul_add, Nat.mul_assoc K x]
  rw [Nat.mul_add] at e2
  have e3 : K * H * (x / 2 ^ (32 - s)) = K * (4294967296 * (x / 2 ^ (32 - s))) := Nat.mul_assoc ..
  omega
def RUp (l : List Nat) (s : Nat) (w : World) (e : Ending) (w' : World) : Prop :=
  ∃ X t, X.length = l.length ∧ Small H (X ++ [t]) ∧ val H (X ++ [t]) = val H l * 2 ^ s ∧ t < 2 ^ s ∧ ROwn 67 .u32 (X ++ [t]) w e w'

set_option maxRecDepth 100000 in
set_option maxHeartbeats 1600000 in
theorem shiftUp_any (v : Value) (l : List Nat) (s : Nat) (w : World) (h : At w .u32 v l) (hs : Small H l) (hs31 : s ≤ 31) (hlen : l.length ≤ 4398046511104) :
    Calls Tryd.prog 97 #[v, .int .i64 (s : Nat)] w (RUp l s w) := by
  obtain ⟨p, cap, rfl, a1, a2, a3, a4⟩ := h
  unfold maxLen at a2
  go_enter Tryd.func97, Tryd.ntmps97
  go_wp2_with (first
    | (at_make; refine wpList_make_at rfl _ _ 65 rfl elemHalves w.heap.size _ _ _ (l.length + 1) rfl rfl (by first | rfl | omega | (simp; done)) (by omega) (by simp [maxLen]; omega) (Nat.le_refl _) ?_; intro vo w1 ho hb1 hs1 hvo; clear hvo))
  go_loopw [5, 6, 15] (fun o lo i wr => ∃ (k low : Nat) (X : List Nat), k ≤ l.length ∧ i = .int .i64 (k : Nat) ∧ lo = .int .u32 (low : Nat) ∧ low < 4294967296 ∧ Hid (low < 2 ^ s) ∧ Own wr w.heap.size 67 .u32 o X ∧ Hid (X.length = k) ∧ Small H X ∧
      Hid (val H X + H ^ k * low = val H (l.take k) * 2 ^ s) ∧ Below w.heap.size w wr) (fun _ _ i _ => l.length - (intOf i).toNat)
  case atStart => exact ⟨0, 0, [], Nat.zero_le _, rfl, rfl, by omega, Nat.two_pow_pos _, ho, rfl, small_nil _, by unfold Hid; simp [val], hb1⟩
  case round =>
    obtain ⟨k, low, X, hk, rfl, rfl, hl32, hlow, hown, hXk, hsX, hv, hbel⟩ := hrel
    by_cases hkl : k < l.length
    · obtain ⟨b, off, rfl, hbb, hcell⟩ := a4 (by omega)
      have e0 : wr.cell? ⟨b, off + k, none⟩ = some (.int .u32 (l[k] : Nat)) := (hbel.cell (p := ⟨b, off + k, none⟩) hbb).trans (hcell k hkl)
      have x0 := small_get hs k hkl
      obtain ⟨x, hx⟩ : ∃ x, x = l[k] := ⟨_, rfl⟩
      rw [← hx] at e0 x0
      have Hx := hid hx; clear hx hcell a4
      unfold H at x0
      obtain ⟨d, hd⟩ : ∃ d, d = x * 2 ^ s % 4294967296 + low := ⟨_, rfl⟩
      obtain ⟨u1, u2, u3⟩ := up_digit x s low hs31 x0 hlow.out
      rw [← hd] at u1
      have hor := shl_or x s low hs31 hlow.out
      rw [← hd] at hor
      have hv' : val H (X ++ [d]) + H ^ (k + 1) * (x / 2 ^ (32 - s)) = val H (l.take (k + 1)) * 2 ^ s := by
        rw [val_snoc, hXk.out, val_take_succ H l k hkl, ← Hx.out, Nat.pow_succ]
        exact up_step hs31 hd hv.out
      have Hd := hid hd; have Hor := hid hor; have Hv' := hid hv'; have U2 := hid u2; have U3 := hid u3
      clear hd hor hv' u2 u3
      go_wp2_with (at_builtin; refine wpList_append_at rfl _ _ 65 rfl elemHalves w.heap.size _ X rfl (hown.alloc _) _ [d] rfl (At.oneI _ _ _ _ _ (by exact Hor.out)) (by rw [hXk.out]; simp [maxLen]; omega) (by rw [hXk.out]; simp; omega) (by have := hbel.size; simp; omega) ?_; intro v2 w2 ho2 hb2 hs2)
      go_roundw
      case rel => exact ⟨k + 1, x / 2 ^ (32 - s), X ++ [d], by omega, by go_num, by simp, U3.out, U2.out, ho2, by have := hXk.out; unfold Hid; simp; omega, small_snoc hsX u1, Hv'.out, (hbel.trans ((below1 _ _).mono hbel.size)).trans hb2⟩
      case measure => (simp [intOf] <;> omega)
    · obtain rfl : k = l.length := by omega
      clear a4
      go_wp2_with (at_builtin; refine wpList_append_at rfl _ _ 65 rfl elemHalves w.heap.size _ X rfl (hown.alloc _) _ [low] rfl (At.oneI _ _ _ _ _ (by rfl)) (by rw [hXk.out]; simp [maxLen]; omega) (by rw [hXk.out]; simp; omega) (by have := hbel.size; simp; omega) ?_; intro v2 w2 ho2 hb2 hs2)
      go_ret
      refine ⟨X, low, hXk.out, small_snoc hsX hl32, ?_, hlow.out, _, rfl, ho2, (hbel.trans ((below1 _ _).mono hbel.size)).trans hb2⟩
      have := hv.out
      rw [List.take_length] at this
      rw [val_snoc, hXk.out, this]
end Go.Proofs.YtippcalhcnjghaaDoor
/- whole.shiftDown: bits moved down. -/
namespace Go.Proofs.YtippcalhcnjghaaDoor
open Go.RowKit Big

/-- the digits of a value whose last s bits are to go: of list l, moved down, the first k -/
theorem down_digit (x y s : Nat) (h : s ≤ 31) (hx : x < 4294967296) : x / 2 ^ s + y * 2 ^ (32 - s) % 4294967296 < 4294967296 ∧
    bits BinOp.or IntKind.u32 ((x : Int) / 2 ^ s) ((y : Int) * 2 ^ (32 - s) % 4294967296) = ((x / 2 ^ s + y * 2 ^ (32 - s) % 4294967296 : Nat) : Int) := by
  by_cases h0 : s = 0
  · subst h0
    have e : y * 2 ^ (32 - 0) % 4294967296 = 0 := by show y * 4294967296 % 4294967296 = 0; omega
    have e' : (y : Int) * 2 ^ (32 - 0) % 4294967296 = ((y * 2 ^ (32 - 0) % 4294967296 : Nat) : Int) := by simp
    rw [e', e]
    have e2 : (x : Int) / 2 ^ 0 = ((x : Nat) : Int) := by simp
    rw [e2, u32_or_nat _ _ (by omega) (by omega)]
    simp
    omega
  · have hp := pow_split s h
    have hq : x / 2 ^ s < 2 ^ (32 - s) := by rw [Nat.div_lt_iff_lt_mul (Nat.two_pow_pos s), ← hp]; exact hx
    have e := shl_mod y (32 - s) (by omega)
    rw [show 32 - (32 - s) = s by omega] at e
    have hl : 2 ^ (32 - s) * (y % 2 ^ s) + 2 ^ (32 - s) ≤ 4294967296 := by
      have h1 : y % 2 ^ s + 1 ≤ 2 ^ s := Nat.mod_lt _ (Nat.two_pow_pos s)
      have h2 : 2 ^ (32 - s) * (y % 2 ^ s + 1) ≤ 2 ^ (32 - s) * 2 ^ s := Nat.mul_le_mul_left _ h1
      rw [← hp, Nat.mul_add] at h2
      omega
    refine ⟨by rw [e]; omega, ?_⟩
    have e1 : (x : Int) / 2 ^ s = ((x / 2 ^ s : Nat) : Int) := by simp
    have e2 : (y : Int) * 2 ^ (32 - s) % 4294967296 = ((y * 2 ^ (32 - s) % 4294967296 : Nat) : Int) := by simp
    rw [e1, e2, u32_or_nat _ _ (by omega) (by omega), e, Nat.or_comm, ← Nat.two_pow_add_eq_or_of_lt hq, Nat.add_comm]
theorem down_step {vX vL x y s r0 K d : Nat} (h : s ≤ 31) (hd : d = x / 2 ^ s + y * 2 ^ (32 - s) % 4294967296) (hv : 2 ^ s * vX + r0 = vL + K * (x % 2 ^ s)) :
    2 ^ s * (vX + K * d) + r0 = (vL + K * x) + K * H * (y % 2 ^ s) := by
  have e := Nat.div_add_mod x (2 ^ s)
  have e1 : 2 ^ s * (y * 2 ^ (32 - s) % 4294967296) = H * (y % 2 ^ s) := by
    by_cases h0 : s = 0
    · subst h0
      have a : y * 2 ^ (32 - 0) % 4294967296 = 0 := by show y * 4294967296 % 4294967296 = 0; omega
      rw [a]; simp [Nat.mod_one]
    · have a := shl_mod y (32 - s) (by omega)
      rw [show 32 - (32 - s) = s by omega] at a
      rw [a, ← Nat.mul_assoc, Nat.mul_comm (2 ^ s), ← pow_split s h]; rfl
  have e2 : K * (2 ^ s * (x / 2 ^ s) + x % 2 ^ s) = K * x := by rw [e]
  have e3 : 2 ^ s * (K * d) = K * (2 ^ s * (x / 2 ^ s)) + K * (H * (y % 2 ^ s)) := by
    rw [Nat.mul_left_comm, hd, Nat.mul_add, e1, Nat.mul_add]
  rw [Nat.mul_add] at e2
  rw [Nat.mul_add, e3, Nat.mul_assoc K H]
  omega

set_option maxRecDepth 100000 in
set_option maxHeartbeats 1600000 in
theorem shiftDown_any (v : Value) (l : List Nat) (s : Nat) (w : World) (h : At w .u32 v l) (hs : Small H l) (hs31 : s ≤ 31) (hlen : l.length ≤ 4398046511104) :
    Calls Tryd.prog 99 #[v, .int .i64 (s : Nat)] w (ROwn 67 .u32 (dig H (val H l / 2 ^ s)) w) := by
  obtain ⟨p, cap, rfl, a1, a2, a3, a4⟩ := h
  unfold maxLen at a2
  obtain ⟨r0, hr0⟩ : ∃ r, r = l[0]?.getD 0 % 2 ^ s := ⟨_, rfl⟩
  have Hr0 := hid hr0
  clear hr0
  go_enter Tryd.func99, Tryd.ntmps99
  go_wp2_with (first
    | (at_make; refine wpList_make_at rfl _ _ 65 rfl elemHalves w.heap.size _ _ _ l.length rfl rfl (by first | rfl | omega | (simp; done)) (by omega) (by simp [maxLen]; omega) (Nat.le_refl _) ?_; intro vo w1 ho hb1 hs1 hvo; clear hvo))
  go_loopw [5, 14] (fun o i wr => ∃ (k : Nat) (X : List Nat), k ≤ l.length ∧ i = .int .i64 (k : Nat) ∧ Own wr w.heap.size 67 .u32 o X ∧ Hid (X.length = k) ∧ Small H X ∧
      Hid (2 ^ s * val H X + r0 = val H (l.take k) + H ^ k * (l[k]?.getD 0 % 2 ^ s)) ∧ Below w.heap.size w wr) (fun _ i _ => l.length - (intOf i).toNat)
  case atStart => exact ⟨0, [], Nat.zero_le _, rfl, ho, rfl, small_nil _, by unfold Hid; rw [Hr0.out]; simp [val], hb1⟩
  case round =>
    obtain ⟨k, X, hk, rfl, hown, hXk, hsX, hv, hbel⟩ := hrel
    by_cases hkl : k < l.length
    · obtain ⟨b, off, rfl, hbb, hcell⟩ := a4 (by omega)
      have e0 : wr.cell? ⟨b, off + k, none⟩ = some (.int .u32 (l[k] : Nat)) := (hbel.cell (p := ⟨b, off + k, none⟩) hbb).trans (hcell k hkl)
      have x0 := small_get hs k hkl
      obtain ⟨x, hx⟩ : ∃ x, x = l[k] := ⟨_, rfl⟩
      rw [← hx] at e0 x0
      have Hx := hid hx
      have hv1 := hv.out
      rw [List.getElem?_eq_getElem hkl, Option.getD_some, ← hx] at hv1
      clear hx
      unfold H at x0
      by_cases hk1 : k + 1 < l.length
      · have e1 : wr.cell? ⟨b, off + (k + 1), none⟩ = some (.int .u32 (l[k + 1] : Nat)) := (hbel.cell (p := ⟨b, off + (k + 1), none⟩) hbb).trans (hcell (k + 1) hk1)
        have y0 := small_get hs (k + 1) hk1
        obtain ⟨y, hy⟩ : ∃ y, y = l[k + 1] := ⟨_, rfl⟩
        rw [← hy] at e1 y0
        unfold H at y0
        obtain ⟨d1, d2⟩ := down_digit x y s hs31 x0
        obtain ⟨d, hd⟩ : ∃ d, d = x / 2 ^ s + y * 2 ^ (32 - s) % 4294967296 := ⟨_, rfl⟩
        rw [← hd] at d1 d2
        have hv' : 2 ^ s * val H (X ++ [d]) + r0 = val H (l.take (k + 1)) + H ^ (k + 1) * (l[k + 1]?.getD 0 % 2 ^ s) := by
          rw [val_snoc, hXk.out, val_take_succ H l k hkl, ← Hx.out, Nat.pow_succ, List.getElem?_eq_getElem hk1, Option.getD_some, ← hy]
          exact down_step hs31 hd hv1
        have D2 := hid d2; have Hv' := hid hv'
        clear d2 hv' hd hy hv1 hcell a4
        go_wp2_with (at_builtin; refine wpList_append_at rfl _ _ 65 rfl elemHalves w.heap.size _ X rfl (hown.alloc _) _ [d] rfl (At.oneI _ _ _ _ _ (by exact D2.out)) (by rw [hXk.out]; simp [maxLen]; omega) (by rw [hXk.out]; simp; omega) (by have := hbel.size; simp; omega) ?_; intro v2 w2 ho2 hb2 hs2)
        go_roundw
        case rel => exact ⟨k + 1, X ++ [d], by omega, by go_num, ho2, by have := hXk.out; unfold Hid; simp; omega, small_snoc hsX d1, Hv'.out, (hbel.trans ((below1 _ _).mono hbel.size)).trans hb2⟩
        case measure => (simp [intOf] <;> omega)
      · obtain ⟨d1, d2⟩ := down_digit x 0 s hs31 x0
        have d2' : bits BinOp.or IntKind.u32 ((x : Int) / 2 ^ s) 0 = ((x / 2 ^ s + 0 * 2 ^ (32 - s) % 4294967296 : Nat) : Int) := by
          have e : ((0 : Nat) : Int) * 2 ^ (32 - s) % 4294967296 = 0 := by simp
          rw [e] at d2; exact d2
        obtain ⟨d, hd⟩ : ∃ d, d = x / 2 ^ s + 0 * 2 ^ (32 - s) % 4294967296 := ⟨_, rfl⟩
        rw [← hd] at d1 d2'
        have hv' : 2 ^ s * val H (X ++ [d]) + r0 = val H (l.take (k + 1)) + H ^ (k + 1) * (l[k + 1]?.getD 0 % 2 ^ s) := by
          rw [val_snoc, hXk.out, val_take_succ H l k hkl, ← Hx.out, Nat.pow_succ, List.getElem?_eq_none (by omega)]
          exact down_step hs31 hd hv1
        have D2 := hid d2'; have Hv' := hid hv'
        clear d2 d2' hv' hd hv1 hcell a4
        go_wp2_with (at_builtin; refine wpList_append_at rfl _ _ 65 rfl elemHalves w.heap.size _ X rfl (hown.alloc _) _ [d] rfl (At.oneI _ _ _ _ _ (by exact D2.out)) (by rw [hXk.out]; simp [maxLen]; omega) (by rw [hXk.out]; simp; omega) (by have := hbel.size; simp; omega) ?_; intro v2 w2 ho2 hb2 hs2)
        go_roundw
        case rel => exact ⟨k + 1, X ++ [d], by omega, by go_num, ho2, by have := hXk.out; unfold Hid; simp; omega, small_snoc hsX d1, Hv'.out, (hbel.trans ((below1 _ _).mono hbel.size)).trans hb2⟩
        case measure => (simp [intOf] <;> omega)
    · obtain rfl : k = l.length := by omega
      have hv' : Hid (strip X = dig H (val H l / 2 ^ s)) := by
        have := hv.out
        rw [List.take_length, List.getElem?_eq_none (Nat.le_refl _)] at this
        have hr : r0 < 2 ^ s := by rw [Hr0.out]; exact Nat.mod_lt _ (Nat.two_pow_pos s)
        simp only [Option.getD_none, Nat.zero_mod, Nat.mul_zero, Nat.add_zero] at this
        unfold Hid
        rw [← this, Nat.mul_add_div (Nat.two_pow_pos s), Nat.div_eq_of_lt hr, Nat.add_zero, strip_dig H2 hsX]
      have hst := strip_length X
      have ht := hid (htrim_val _ X wr hown.at)
      clear a4
      go_wp2_with (go_at_call 81; refine ht.out.mono ?_; rintro e w' ⟨rfl, rfl⟩)
      go_ret
      obtain ⟨po, co, rfl, -⟩ := id hown.at
      exact ⟨_, rfl, by rw [← hv'.out]; have := hown.take (strip X).length hst; rwa [← strip_is_take] at this, hbel⟩
end Go.Proofs.YtippcalhcnjghaaDoor
/- whole.divideLong: plain numbers. -/
namespace Go.Proofs.YtippcalhcnjghaaDoor
open Go.RowKit Big

theorem lead_ok (t : Nat) (h0 : 0 < t) (h : t < 4294967296) : ∃ s : Nat, s ≤ 31 ∧ (32 - (Lib.bitLen t : Int)) = (s : Int) ∧ 2147483648 ≤ t * 2 ^ s ∧ (t + 1) * 2 ^ s ≤ 4294967296 := by
  obtain ⟨a, b, c⟩ := Lib.bitLenAux_bounds 64 t (Nat.lt_trans h (by decide)) (by omega)
  have hb : Lib.bitLen t ≤ 32 := Lib.bitLen_le t 32 (by decide) h
  change 1 ≤ Lib.bitLen t at a
  change 2 ^ (Lib.bitLen t - 1) ≤ t at b
  change t < 2 ^ Lib.bitLen t at c
  generalize Lib.bitLen t = L at *
  refine ⟨32 - L, by omega, by omega, ?_, ?_⟩
  · have e : 2 ^ (L - 1) * 2 ^ (32 - L) = 2147483648 := by rw [← Nat.pow_add, show L - 1 + (32 - L) = 31 by omega]
    have := Nat.mul_le_mul_right (2 ^ (32 - L)) b
    omega
  · have e : 2 ^ L * 2 ^ (32 - L) = 4294967296 := by rw [← Nat.pow_add, show L + (32 - L) = 32 by omega]
    have := Nat.mul_le_mul_right (2 ^ (32 - L)) (show t + 1 ≤ 2 ^ L from c)
    omega
/-- the divisor, moved up: as many halves, the highest bit set -/
theorem up_divisor {b s m : Nat} {l : List Nat} (hl : l = dig H b) (hm : l.length = m + 2) (t : Nat) (ht : t = l[m + 1]'(by omega)) (h1 : 2147483648 ≤ t * 2 ^ s) (h2 : (t + 1) * 2 ^ s ≤ 4294967296) :
    (dig H (b * 2 ^ s)).length = m + 2 ∧ ∀ h : m + 1 < (dig H (b * 2 ^ s)).length, 2147483648 ≤ (dig H (b * 2 ^ s))[m + 1]'h := by
  have hv : val H l = b := by rw [hl, val_dig H2]
  have hs : Small H l := by rw [hl]; exact small_dig H2 b
  have e := val_take_succ H l (m + 1) (by omega)
  rw [show m + 1 + 1 = l.length by omega, List.take_length, hv, ← ht] at e
  have lt : val H (l.take (m + 1)) < H ^ (m + 1) := val_take_lt hs (m + 1) (by omega)
  have e1 : H ^ (m + 1) * 2147483648 ≤ b * 2 ^ s := by
    rw [e, Nat.add_mul, Nat.mul_assoc]
    have := Nat.mul_le_mul_left (H ^ (m + 1)) h1
    omega
  have e2 : b * 2 ^ s < H ^ (m + 2) := by
    have a1 : b + 1 ≤ H ^ (m + 1) * (t + 1) := by rw [e, Nat.mul_add]; omega
    have a2 : (b + 1) * 2 ^ s ≤ H ^ (m + 1) * (t + 1) * 2 ^ s := Nat.mul_le_mul_right _ a1
    have a3 : H ^ (m + 1) * (t + 1) * 2 ^ s ≤ H ^ (m + 1) * 4294967296 := by rw [Nat.mul_assoc]; exact Nat.mul_le_mul_left _ h2
    have a4 : H ^ (m + 2) = H ^ (m + 1) * 4294967296 := Nat.pow_succ ..
    have a5 : 0 < 2 ^ s := Nat.two_pow_pos s
    rw [Nat.add_mul] at a2
    omega
  have hlen : (dig H (b * 2 ^ s)).length = m + 2 := by
    have h3 : sz H (b * 2 ^ s) ≤ m + 2 := sz_le_of_lt H2 e2
    have h4 : ¬ sz H (b * 2 ^ s) ≤ m + 1 := fun hle => by
      have a1 := lt_pow_sz H2 (b * 2 ^ s)
      have a2 : H ^ sz H (b * 2 ^ s) ≤ H ^ (m + 1) := Nat.pow_le_pow_right (by decide) hle
      omega
    show sz H (b * 2 ^ s) = m + 2
    omega
  refine ⟨hlen, fun hh => ?_⟩
  have f := val_take_succ H (dig H (b * 2 ^ s)) (m + 1) (by omega)
  rw [show m + 1 + 1 = (dig H (b * 2 ^ s)).length by omega, List.take_length, val_dig H2] at f
  have lt2 : val H ((dig H (b * 2 ^ s)).take (m + 1)) < H ^ (m + 1) := val_take_lt (small_dig H2 _) (m + 1) (by omega)
  generalize (dig H (b * 2 ^ s))[m + 1]'(by omega) = u at *
  have g : H ^ (m + 1) * 2147483648 < H ^ (m + 1) * (u + 1) := by rw [Nat.mul_add]; omega
  have := Nat.lt_of_mul_lt_mul_left g
  omega
/-- the dividend, moved up: its highest halves are less than the divisor -/
theorem up_rest {X : List Nat} {t b s m k : Nat} (hs : Small H (X ++ [t])) (ht : t < 2 ^ s) (hX : X.length = k + (m + 1)) (hb : H ^ (m + 1) ≤ b) : val H ((X ++ [t]).drop k) < b * 2 ^ s := by
  have e : (X ++ [t]).drop k = X.drop k ++ [t] := by rw [List.drop_append_of_le_length (by omega)]
  have hl : (X.drop k).length = m + 1 := by simp; omega
  rw [e, val_snoc, hl]
  have h1 := val_lt (B := H) (by decide) (small_drop (small_left hs) k)
  rw [hl] at h1
  have h2 : H ^ (m + 1) * (t + 1) ≤ H ^ (m + 1) * 2 ^ s := Nat.mul_le_mul_left _ ht
  have h3 : H ^ (m + 1) * 2 ^ s ≤ b * 2 ^ s := Nat.mul_le_mul_right _ hb
  rw [Nat.mul_add] at h2
  omega
/-- what lies above a window is 0 -/
theorem above_zero {R : List Nat} {D k M : Nat} (hD : D < H ^ M) (h : val H (R.drop (k + 1)) < D) : val H (R.drop (k + M + 1)) = 0 := by
  by_cases hz : val H (R.drop (k + M + 1)) = 0
  · exact hz
  · exfalso
    by_cases hk : M ≤ (R.drop (k + 1)).length
    · have e := val_take_drop H (R.drop (k + 1)) M hk
      rw [List.drop_drop, show k + 1 + M = k + M + 1 by omega] at e
      have : H ^ M * 1 ≤ H ^ M * val H (R.drop (k + M + 1)) := Nat.mul_le_mul_left _ (by omega)
      omega
    · apply hz
      rw [List.drop_of_length_le (by simp at hk; omega)]; rfl
theorem long_lt {R : List Nat} {D k M : Nat} (sR : Small H R) (hM : D < H ^ M) (hk : k + M + 1 ≤ R.length) (h : val H (R.drop (k + 1)) < D) : val H ((R.drop k).take (M + 1)) < D * H := by
  have z := above_zero hM h
  have w1 : val H (R.drop k) = val H ((R.drop k).take (M + 1)) := by
    have e := val_take_drop H (R.drop k) (M + 1) (by simp; omega)
    rw [List.drop_drop, ← Nat.add_assoc, z, Nat.mul_zero, Nat.add_zero] at e
    exact e
  have w2 : val H (R.drop k) = R[k]'(by omega) + H * val H (R.drop (k + 1)) := val_drop_succ H R k (by omega)
  have rk := small_get sR k (by omega)
  rw [← w1, w2]
  have : H * (val H (R.drop (k + 1)) + 1) ≤ H * D := Nat.mul_le_mul_left _ h
  rw [Nat.mul_add] at this
  rw [Nat.mul_comm D H]
  omega
/-- one round -/
theorem long_step {R X Z : List Nat} {D k M n : Nat} (sR : Small H R) (hM : D < H ^ M) (hk : k + M + 1 ≤ R.length) (hZ : k < Z.length) (h : val H (R.drop (k + 1)) < D) (hv : n = val H R + D * H ^ (k + 1) * val H (Z.drop (k + 1)))
    (hX : X.length = M + 1) (hXv : val H X = val H ((R.drop k).take (M + 1)) % D) :
    val H ((R.drop k).take (M + 1)) < D * H ∧
    val H ((R.take k ++ X ++ R.drop (k + M + 1)).drop k) < D ∧ n = val H (R.take k ++ X ++ R.drop (k + M + 1)) + D * H ^ k * val H ((Z.set k (val H ((R.drop k).take (M + 1)) / D)).drop k) := by
  have z := above_zero hM h
  have w1 : val H (R.drop k) = val H ((R.drop k).take (M + 1)) := by
    have e := val_take_drop H (R.drop k) (M + 1) (by simp; omega)
    rw [List.drop_drop, ← Nat.add_assoc, z, Nat.mul_zero, Nat.add_zero] at e
    exact e
  have w2 : val H (R.drop k) = R[k]'(by omega) + H * val H (R.drop (k + 1)) := val_drop_succ H R k (by omega)
  have rk := small_get sR k (by omega)
  have hD : 0 < D := by omega
  have lt1 : val H ((R.drop k).take (M + 1)) < D * H := by
    rw [← w1, w2]
    have : H * (val H (R.drop (k + 1)) + 1) ≤ H * D := Nat.mul_le_mul_left _ h
    rw [Nat.mul_add] at this
    rw [Nat.mul_comm D H]
    omega
  refine ⟨lt1, ?_, ?_⟩
  · have e : (R.take k ++ X ++ R.drop (k + M + 1)).drop k = X ++ R.drop (k + M + 1) := by
      rw [List.append_assoc, List.drop_append_of_le_length (by simp; omega), List.drop_of_length_le (by simp; omega), List.nil_append]
    rw [e, val_append, z, Nat.mul_zero, Nat.add_zero, hXv]
    exact Nat.mod_lt _ hD
  · have e1 : val H (R.take k ++ X ++ R.drop (k + M + 1)) = val H (R.take k) + H ^ k * val H X := by
      rw [List.append_assoc, val_append, val_append, z, Nat.mul_zero, Nat.add_zero]
      congr 3
      simp; omega
    have e2 : val H R = val H (R.take k) + H ^ k * val H ((R.drop k).take (M + 1)) := by rw [val_take_drop H R k (by omega), w1]
    have e3 : val H ((Z.set k (val H ((R.drop k).take (M + 1)) / D)).drop k) = val H ((R.drop k).take (M + 1)) / D + H * val H (Z.drop (k + 1)) := by
      rw [val_drop_succ H _ k (by simpa using hZ)]
      congr 1
      · simp
      · congr 2
        rw [List.drop_set_of_lt (by omega)]
    rw [hv, e1, e2, e3, hXv]
    have e4 := Nat.div_add_mod (val H ((R.drop k).take (M + 1))) D
    generalize val H ((R.drop k).take (M + 1)) = y at *
    generalize val H (Z.drop (k + 1)) = z' at *
    generalize y / D = q at *
    generalize y % D = r at *
    rw [← e4, Nat.pow_succ]
    have a1 : H ^ k * (D * q + r) = D * H ^ k * q + H ^ k * r := by rw [Nat.mul_add, Nat.mul_comm D (H ^ k), Nat.mul_assoc]
    have a2 : D * H ^ k * (q + H * z') = D * H ^ k * q + D * (H ^ k * H) * z' := by rw [Nat.mul_add, ← Nat.mul_assoc, ← Nat.mul_assoc D, Nat.mul_assoc (D * H ^ k)]
    omega
/-- the end -/
theorem long_end {a b s r q : Nat} (h : a * 2 ^ s = r + b * 2 ^ s * q) (hr : r < b * 2 ^ s) : q = a / b ∧ r / 2 ^ s = a % b := by
  have p : 0 < 2 ^ s := Nat.two_pow_pos s
  have hb : 0 < b := Nat.pos_of_ne_zero fun e => by subst e; simp at hr
  have e1 : (a * 2 ^ s) / (b * 2 ^ s) = q := by
    rw [h, Nat.add_comm, Nat.mul_add_div (Nat.mul_pos hb p), Nat.div_eq_of_lt hr, Nat.add_zero]
  have e2 : (a * 2 ^ s) % (b * 2 ^ s) = r := by
    rw [h, Nat.add_comm, Nat.mul_add_mod, Nat.mod_eq_of_lt hr]
  rw [Nat.mul_div_mul_right _ _ p] at e1
  rw [Nat.mul_mod_mul_right] at e2
  exact ⟨e1.symm, by rw [← e2, Nat.mul_div_cancel _ p]⟩
end Go.Proofs.YtippcalhcnjghaaDoor
