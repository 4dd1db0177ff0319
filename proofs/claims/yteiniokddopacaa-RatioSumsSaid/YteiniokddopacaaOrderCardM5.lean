/- Texts put together: Gcd, DivZero, RefTimes, RefMul, RefParts, Facts. -/
import Derived.Test.YteiniokddopacaaOrderCardM4
import Derived.Deep.LoopGhost
/- whole.Div of any numbers; whole.common and whole.Gcd. -/
namespace Go.Proofs.Yteiniokddopacaa
open Go.RowKit Big

theorem Div_any (v0 v1 : Value) (a b : Int) (w : World) (h0 : RawAt w v0 a) (h1 : RawAt w v1 b) (hb0 : b ≠ 0) : Calls Try.prog 54 #[v0, v1] w (RDiv (a / b) (a % b) 0 w) :=
  Div_of v0 v1 a b w h0 h1 hb0 (fun W' u u' hu hu' => divide_any u u' _ _ W' hu hu' (by omega) h0.sz h1.sz)

theorem gcd_step (a b : Nat) : Nat.gcd b (a % b) = Nat.gcd a b := by rw [Nat.gcd_comm a b, Nat.gcd_rec b a, Nat.gcd_comm]

def RWord (n : Nat) (w : World) (e : Ending) (w' : World) : Prop := e = .returned (.int .u64 (n : Nat)) ∧ ∃ k, w' = w.drewN k

set_option maxRecDepth 100000 in
set_option maxHeartbeats 1600000 in
theorem commonWord_any (a b : Nat) (w : World) (ha : a < W) (hb : b < W) : Calls Try.prog 90 #[.int .u64 (a : Nat), .int .u64 (b : Nat)] w (RWord (Nat.gcd a b) w) := by
  unfold W at ha hb
  go_enter Try.func90, Try.ntmps90
  go_wp2_with fail
  go_loopw [0, 1] (fun x y wr => ∃ (p q : Nat), x = .int .u64 (p : Nat) ∧ y = .int .u64 (q : Nat) ∧ p < 18446744073709551616 ∧ q < 18446744073709551616 ∧ Hid (Nat.gcd p q = Nat.gcd a b) ∧ Hid (∃ k, wr = w.drewN k)) (fun _ y _ => (intOf y).toNat)
  case atStart => exact ⟨a, b, rfl, rfl, ha, hb, rfl, 0, rfl⟩
  case round =>
    obtain ⟨p, q, rfl, rfl, hp, hq, hg, hw⟩ := hrel
    by_cases h0 : q = 0
    · subst h0
      have hres : Hid (p = Nat.gcd a b) := by have := hg.out; rw [Nat.gcd_zero_right] at this; exact this
      clear hg
      go_wp2
      go_ret
      exact ⟨by rw [← hres.out]; rfl, hw.out⟩
    · have hb1 : ((q : Int) == 0) = false := beq_eq_false_iff_ne.2 (by omega)
      have hb2 : ((q : Int) != 0) = true := by simp [bne, hb1]
      have hr : p % q < q := Nat.mod_lt _ (by omega)
      have er : (p : Int) % (q : Int) = ((p % q : Nat) : Int) := (Int.natCast_emod p q).symm
      have hg' := hid ((gcd_step p q).trans hg.out)
      have Er := hid er
      clear er hg h0
      go_wp2_with fail
      go_quiet (fail)
      rw [Er.out]
      generalize p % q = r at *
      go_wp2_with fail
      go_roundw
      case rel => exact ⟨q, r, rfl, rfl, hq, by omega, hg'.out, by obtain ⟨k, hk⟩ := hw.out; rw [hk]; exact ⟨_, drewN_twice ..⟩⟩
      case measure => (simp [intOf] <;> omega)

set_option maxRecDepth 100000 in
set_option maxHeartbeats 3200000 in
theorem common_any (v0 v1 : Value) (n m : Nat) (w : World) (h0 : At w .u64 v0 (dig W n)) (h1 : At w .u64 v1 (dig W m)) (hn : sz W n ≤ 1099511627776) (hm : sz W m ≤ 1099511627776) :
    Calls Try.prog 75 #[v0, v1] w (RAt .u64 (dig W (Nat.gcd n m)) w) := by
  by_cases hs : n < W ∧ m < W
  · obtain ⟨wn, wm⟩ := hs
    have g0 := word_any v0 _ w h0
    have g1 := word_any v1 _ w h1
    rw [head_dig wn] at g0
    rw [head_dig wm] at g1
    have gl : Nat.gcd n m < W := by
      rcases Nat.eq_zero_or_pos n with h | h
      · subst h; rw [Nat.gcd_zero_left]; exact wm
      · exact Nat.lt_of_le_of_lt (Nat.gcd_le_left m h) wn
    have G0 := hid g0; have G1 := hid g1
    have hc := hid (commonWord_any n m w wn wm)
    have hO := hid (fun W' => ownWord_any (Nat.gcd n m) W' gl)
    have l0 : (dig W n).length ≤ 1 := sz_word wn
    have l1 : (dig W m).length ≤ 1 := sz_word wm
    obtain ⟨p0, c0, rfl, -⟩ := h0
    obtain ⟨p1, c1, rfl, -⟩ := h1
    generalize (dig W n).length = ln at *
    generalize (dig W m).length = lm at *
    clear g0 g1 hn hm gl wn wm
    go_enter Try.func75, Try.ntmps75
    go_wp2_with fail
    refine G0.out.mono ?_
    rintro e w' ⟨rfl, rfl⟩
    go_wp2_with fail
    refine G1.out.mono ?_
    rintro e w' ⟨rfl, rfl⟩
    go_wp2_with fail
    refine hc.out.mono ?_
    rintro e w1 ⟨rfl, k, rfl⟩
    go_wp2_with fail
    refine (hO.out _).mono ?_
    rintro e w2 ⟨v2, rfl, ho2, hb2⟩
    go_wp2_with fail
    go_ret
    exact ⟨_, rfl, ho2, (below_drewN (Below.refl _ _) k).trans hb2⟩
  · have s0 := split_any v0 (dig W n) w h0 (small_dig W2 n) hn
    rw [val_dig W2] at s0
    have s1 : ∀ W', Below w.heap.size w W' → Calls Try.prog 86 #[v1] W' (ROwn 94 .u32 (dig H m) W') := fun W' hb => by
      have := split_any v1 (dig W m) W' (h1.below hb) (small_dig W2 m) hm
      rwa [val_dig W2] at this
    have b0 : sz H n ≤ 2199023255552 := Nat.le_trans (sz_H_W n) (by omega)
    have b1 : sz H m ≤ 2199023255552 := Nat.le_trans (sz_H_W m) (by omega)
    have S0 := hid s0; have S1 := hid s1
    have hguard : ¬ ((dig W n).length ≤ 1 ∧ (dig W m).length ≤ 1) := fun h => hs ⟨
      Nat.lt_of_lt_of_le (lt_pow_sz W2 n) (Nat.le_trans (Nat.pow_le_pow_right (by decide) (show sz W n ≤ 1 from h.1)) (by simp)),
      Nat.lt_of_lt_of_le (lt_pow_sz W2 m) (Nat.le_trans (Nat.pow_le_pow_right (by decide) (show sz W m ≤ 1 from h.2)) (by simp))⟩
    obtain ⟨p0, c0, rfl, -⟩ := h0
    obtain ⟨p1, c1, rfl, -⟩ := h1
    have hg2 : decide (((dig W n).length : Int) ≤ 1) = false ∨ (decide (((dig W n).length : Int) ≤ 1) = true ∧ decide (((dig W m).length : Int) ≤ 1) = false) := by
      rcases Nat.lt_or_ge 1 (dig W n).length with h | h
      · exact Or.inl (decide_eq_false (by omega))
      · exact Or.inr ⟨decide_eq_true (by omega), decide_eq_false (by have : ¬ (dig W m).length ≤ 1 := fun h' => hguard ⟨h, h'⟩; omega)⟩
    generalize (dig W n).length = ln at *
    generalize (dig W m).length = lm at *
    clear s0 s1 hguard hs hn hm
    rcases hg2 with hg | ⟨hg, hg'⟩
    all_goals
      go_enter Try.func75, Try.ntmps75
      go_wp2_with fail
      refine S0.out.mono ?_
      rintro e w1 ⟨u, rfl, hu, hu1⟩
      go_wp2_with fail
      refine (S1.out _ hu1).mono ?_
      rintro e w2 ⟨u', rfl, hu', hu2⟩
      have b12 := Below.go hu2 hu1
      have au := hu.at.below hu2
      have au' := hu'.at
      clear hu1 hu2 hu hu' S0 S1
      go_wp2_with fail
      go_loopg [5, 6] m (fun gk x y wr => ∃ (p : Nat), At wr .u32 x (dig H p) ∧ At wr .u32 y (dig H gk) ∧ sz H p ≤ 2199023255552 ∧ sz H gk ≤ 2199023255552 ∧ Hid (Nat.gcd p gk = Nat.gcd n m) ∧ Below w.heap.size w wr)
      case atStart => exact ⟨n, au, au', b0, b1, rfl, b12⟩
      case round =>
        obtain ⟨p, hx, hy, hp, hq, hgcd, hbel⟩ := hrel
        by_cases h0 : gk = 0
        · have hres : Hid (p = Nat.gcd n m) := by have := hgcd.out; rw [h0, Nat.gcd_zero_right] at this; exact this
          have hl : (dig H gk).length = 0 := by rw [h0]; rfl
          have hj := hid (join_any _ p wr hx (by omega))
          obtain ⟨py, cy, rfl, -⟩ := hy
          rw [hl]
          clear hl h0 hgcd hq hx
          go_wp2_with fail
          refine hj.out.mono ?_
          rintro e w5 ⟨v5, rfl, ho5, hb5⟩
          go_wp2_with fail
          go_ret
          exact ⟨_, rfl, by rw [← hres.out]; exact ho5.at, Below.go hb5 hbel⟩
        · have hl : 0 < (dig H gk).length := Nat.pos_of_ne_zero fun e => h0 ((sz_eq_zero H2).1 e)
          have hd := hid (divideHalves_any _ _ p gk wr hx hy (by omega) hp hq)
          have hg' := hid ((gcd_step p gk).trans hgcd.out)
          have hlt : p % gk < gk := Nat.mod_lt _ (by omega)
          have hsz : sz H (p % gk) ≤ 2199023255552 := Nat.le_trans (sz_mono H2 (Nat.le_of_lt hlt)) hq
          have Hy := hid hy
          obtain ⟨py, cy, rfl, -⟩ := hy
          obtain ⟨ly, hly⟩ : ∃ k, k = (dig H gk).length := ⟨_, rfl⟩
          rw [← hly] at hl hd Hy ⊢
          clear hly h0 hgcd hx
          go_wp2_with fail
          refine hd.out.mono ?_
          rintro e w5 ⟨q5, r5, rfl, -, hr5, hb5⟩
          have hy5 := Hy.out.below hb5
          have b5 := Below.go hb5 hbel
          clear hd hb5 Hy
          go_wp2_with fail
          go_roundg (p % gk)
          case measure => exact hlt
          case rel => exact ⟨gk, hy5, hr5, hq, hsz, hg'.out, b5⟩

set_option maxRecDepth 100000 in
set_option maxHeartbeats 1600000 in
theorem Gcd_any (v0 v1 : Value) (a b : Int) (w : World) (h0 : RawAt w v0 a) (h1 : RawAt w v1 b) : Calls Try.prog 57 #[v0, v1] w (RInt (Nat.gcd a.natAbs b.natAbs : Nat) w) := by
  have z0 := h0.sz
  have z1 := h1.sz
  obtain ⟨n0, s0, l0, rfl, a0, b0, c0, rfl⟩ := h0
  obtain ⟨n1, s1, l1, rfl, a1, b1, c1, rfl⟩ := h1
  rw [sg_natAbs] at z0 z1 ⊢
  rw [sg_natAbs]
  have t0 : ∀ W : World, At W .u64 s0 l0 → Calls Try.prog 64 #[s0] W (fun e w' => e = .returned (cutTo s0 (strip l0).length) ∧ w' = W) := fun W h => trim_val s0 l0 W h
  have t1 : ∀ W : World, At W .u64 s1 l1 → Calls Try.prog 64 #[s1] W (fun e w' => e = .returned (cutTo s1 (strip l1).length) ∧ w' = W) := fun W h => trim_val s1 l1 W h
  have T0 := hid t0; have T1 := hid t1; clear t0 t1
  have d0 := hid (strip_dig W2 b0)
  have d1 := hid (strip_dig W2 b1)
  go_enter Try.func57, Try.ntmps57
  go_wp2_with fail
  generalize hW : World.alloc (World.alloc (World.alloc w _) _) _ = W3
  have bw : Below w.heap.size w W3 := by rw [← hW]; exact ((below1 _ _).alloc (by simp) _).alloc (by simp; omega) _
  have hp : Pair W3 (w.heap.size + 1 + 1) 25 := by rw [← hW]; exact Pair.new2 ..
  obtain ⟨-, c01, -, c11, -⟩ : Two W3 w.heap.size (.bool n0) s0 (.bool n1) s1 := by rw [← hW]; exact (Two.new w _ _ _ _ _).below (below1 _ _)
  have z3 : w.heap.size + 3 ≤ W3.heap.size := by rw [← hW]; simp
  have A0 : ∀ W', Below W3.heap.size W3 W' → At W' .u64 (cutTo s0 (strip l0).length) (dig W (val W l0)) := fun W' h' => by have := ((a0.below bw).below h').strip; rwa [d0.out] at this ⊢
  have A1 : ∀ W', Below W3.heap.size W3 W' → At W' .u64 (cutTo s1 (strip l1).length) (dig W (val W l1)) := fun W' h' => by have := ((a1.below bw).below h').strip; rwa [d1.out] at this ⊢
  have HA0 := hid A0; have HA1 := hid A1; have bw' := hid bw; have a0' := hid (a0.below bw); have a1' := hid (a1.below bw)
  clear hW bw A0 A1 a0 a1
  generalize cutTo s0 (strip l0).length = u0 at *
  generalize cutTo s1 (strip l1).length = u1 at *
  generalize val W l0 = x at *
  generalize val W l1 = y at *
  clear d0 d1 b0 b1 c0 c1
  have hsg : Hid (sg false (Nat.gcd x y) = ((Nat.gcd x y : Nat) : Int)) := by unfold Hid sg; simp
  go_region_held3 (fun w' => w'.cell? ⟨w.heap.size, 1, none⟩ = some s0 ∧ w'.cell? ⟨w.heap.size + 1, 1, none⟩ = some s1 ∧ Pair w' (w.heap.size + 1 + 1) 25)
    (first | (go_split_ands; (try dsimp only); (repeat' apply And.intro) <;> first | assumption | exact Pair.drew ‹_› | exact Pair.below ‹_› hb9 | exact Pair.below ‹_› hb8 | exact Pair.below ‹_› hb7 | exact Pair.below ‹_› hb6 | exact Pair.below ‹_› hb5 | exact Pair.below ‹_› hb4 | exact Pair.below ‹_› hb3 | exact Pair.below ‹_› hb2 | exact Pair.below ‹_› hb1 | exact (hb9.cell (by first | omega | (simp; omega) | (simp; done))).trans ‹_› | exact (hb8.cell (by first | omega | (simp; omega) | (simp; done))).trans ‹_› | exact (hb7.cell (by first | omega | (simp; omega) | (simp; done))).trans ‹_› | exact (hb6.cell (by first | omega | (simp; omega) | (simp; done))).trans ‹_› | exact (hb5.cell (by first | omega | (simp; omega) | (simp; done))).trans ‹_› | exact (hb4.cell (by first | omega | (simp; omega) | (simp; done))).trans ‹_› | exact (hb3.cell (by first | omega | (simp; omega) | (simp; done))).trans ‹_› | exact (hb2.cell (by first | omega | (simp; omega) | (simp; done))).trans ‹_› | exact (hb1.cell (by first | omega | (simp; omega) | (simp; done))).trans ‹_› | exact Pair.set1 (Pair.set0 ‹_› _) _ _ _ | exact (cell_stored _ (by first | (dsimp only; omega) | (simp; done) | (simp; omega)) _ _).trans ‹_› | exact Pair.drew (Pair.below ‹_› (below1 _ _)) | exact Pair.below ‹_› (below1 _ _) | exact Pair.far ‹_› (by omega) hb1 | exact Pair.new .. | exact Pair.new1 .. | exact Pair.new2 .. | (go_keep; done)) | (go_keep; done))
    (first
      | (go_at_call_of 64 (s0); refine (T0.out _ a0'.out.drew).mono ?_; rintro e w' ⟨rfl, rfl⟩)
      | (go_at_call_of 64 (s1); refine (T1.out _ a1'.out.drew).mono ?_; rintro e w' ⟨rfl, rfl⟩)
      | (go_at_call 75; refine (common_any u0 u1 x y _ (HA0.out _ (Below.drew (Below.refl _ _))) (HA1.out _ (Below.drew (Below.refl _ _))) z0 z1).mono ?_; rintro e w1 ⟨v1, rfl, ho1, hb1⟩; have hz1 : w.heap.size + 3 ≤ w1.heap.size := (by have := hb1.size; simp at this; omega))
      | (go_at_call 58; refine (told_any false _ _ _ ho1).mono ?_; rintro e w2 ⟨v2, rfl, hi2, hb2⟩; obtain ⟨p2, n2, c2, rfl, hi2⟩ := hi2.shape; have hpr := Pair.below (by go_split_ands; assumption) hb2; obtain ⟨_, _, q0, q1, q2, q3⟩ := hpr.cells))
  go_wp2
  exact bodyPost_ret (v := .agg #[.bool (decide (sg false (Nat.gcd x y) < 0)), .slice p2 n2 c2]) (by simp [results, Try.results57, go_sem, q0, q1]) rfl
    ⟨_, rfl, by rw [← hsg.out]; exact hi2.stored hpr _ _ _ _, Below.stored ((bw'.out.drew.trans (hb1.mono (B' := w.heap.size) (by simp; omega))).trans (hb2.mono (B' := w.heap.size) (by omega))) (by omega) _ _⟩
end Go.Proofs.Yteiniokddopacaa
/- whole.Div by 0. -/
namespace Go.Proofs.Yteiniokddopacaa
open Go.RowKit Big

set_option maxRecDepth 100000 in
set_option maxHeartbeats 1600000 in
theorem Div_zero (v0 v1 : Value) (a : Int) (w : World) (h0 : RawAt w v0 a) (h1 : RawAt w v1 0) : Calls Try.prog 54 #[v0, v1] w (RDiv 0 0 12 w) := by
  obtain ⟨n0, s0, l0, rfl, a0, b0, c0, rfl⟩ := h0
  obtain ⟨n1, s1, l1, rfl, a1, b1, c1, hz⟩ := h1
  have t0 : ∀ W : World, At W .u64 s0 l0 → Calls Try.prog 64 #[s0] W (fun e w' => e = .returned (cutTo s0 (strip l0).length) ∧ w' = W) := fun W h => trim_val s0 l0 W h
  have t1 : ∀ W : World, At W .u64 s1 l1 → Calls Try.prog 64 #[s1] W (fun e w' => e = .returned (cutTo s1 (strip l1).length) ∧ w' = W) := fun W h => trim_val s1 l1 W h
  have hl : (strip l1).length = 0 := by
    have e := strip_dig W2 b1
    have hv : val W l1 = 0 := by
      have := congrArg Int.natAbs hz
      rw [sg_natAbs] at this
      simpa using this.symm
    rw [e, hv]; rfl
  rw [hl] at t1
  have T0 := hid t0; have T1 := hid t1
  obtain ⟨p1, k1, rfl, -⟩ := id a1
  simp only [cutTo_slice] at T1
  clear t0 t1 hl hz b0 b1 c0 c1
  go_enter Try.func54, Try.ntmps54
  go_wp2_with fail
  go_quiet ((first
    | (go_at_call_of 64 (s0); exact Calls.quiet_of_same (T0.out _ (by repeat (first | exact a0 | apply At.drewN | apply At.drew | apply At.alloc))))
    | (go_at_call 64; exact Calls.quiet_of_same (T1.out _ (by repeat (first | exact a1 | apply At.drewN | apply At.drew | apply At.alloc))))))
  generalize hW : World.drewN (World.alloc (World.alloc (World.alloc (World.alloc w _) _) _) _) _ = W3
  have bw : Below w.heap.size w W3 := by rw [← hW]; exact below_drewN ((((below1 _ _).alloc (by simp) _).alloc (by simp; omega) _).alloc (by simp; omega) _) _
  have hp : Pair W3 (w.heap.size + 1 + 1) 25 := by rw [← hW]; exact Pair.below (Pair.new2 ..) (below_drewN (below1 _ _) _)
  have hp' : Pair W3 (w.heap.size + 1 + 1 + 1) 25 := by rw [← hW]; exact Pair.new3 ..
  clear hW
  obtain ⟨_, _, q0, q1, q2, q3⟩ := hp.cells
  obtain ⟨_, _, r0, r1, r2, r3⟩ := hp'.cells
  go_wp2
  have hi6 : IntAt W3 (.agg #[.bool false, .slice none 0 0]) 0 := IntAt.zero _
  have hpB' := (hp'.other (g' := w.heap.size + 1 + 1) (by omega) 0 (.bool false)).other (g' := w.heap.size + 1 + 1) (by omega) 1 (.slice none 0 0)
  exact bodyPost_ret (v := .tuple #[.agg #[.bool false, .slice none 0 0], .agg #[.bool false, .slice none 0 0], .int .i64 12])
    (by simp [results, Try.results54, go_sem, q0, q1, r0, r1]) rfl
    ⟨_, _, rfl, (hi6.stored hp _ _ _ _).stored hpB' _ _ _ _, (hi6.stored hp _ _ _ _).stored hpB' _ _ _ _, Below.stored (Below.stored bw (by omega) _ _) (by omega) _ _⟩
end Go.Proofs.Yteiniokddopacaa
/- elenchusref01.times: products of digits. -/
namespace Go.Proofs.Yteiniokddopacaa
open Go.RowKit Big

theorem rtimes_step {O : List Nat} {k x y c P Va Vb DI DJ : Nat} (hk : k < O.length) (hP : P = c + O[k] + x * y) (hDk : D ^ k = DI * DJ)
    (hv : val D O + c * D ^ k = Va + DI * (x * Vb)) : val D (O.set k (P % 65536)) + P / 65536 * D ^ (k + 1) = Va + DI * (x * (Vb + DJ * y)) := by
  have h1 := val_set D O k (P % 65536) hk
  have e2 : P % 65536 + D * (P / 65536) = c + O[k] + x * y := by rw [← hP]; unfold D; omega
  rw [Nat.pow_succ]
  generalize val D (O.set k (P % 65536)) = V' at *
  generalize O[k] = o at *
  generalize P % 65536 = r at *
  generalize P / 65536 = q at *
  have e3 : D ^ k * (r + D * q) = D ^ k * (c + o + x * y) := by rw [e2]
  rw [hDk] at e3 h1 hv ⊢
  have g1 : q * (DI * DJ * D) = DI * DJ * (D * q) := by rw [Nat.mul_left_comm, Nat.mul_comm q D]
  have g2 : DI * (x * (Vb + DJ * y)) = DI * (x * Vb) + DI * DJ * (x * y) := by rw [Nat.mul_add, Nat.mul_add, Nat.mul_assoc DI DJ, Nat.mul_left_comm x DJ y]
  have g3 : c * (DI * DJ) = DI * DJ * c := Nat.mul_comm ..
  simp only [Nat.mul_add] at e3
  rw [g1, g2]
  rw [g3] at hv
  omega
theorem dsum_lt {x y o c : Nat} (hx : x < 65536) (hy : y < 65536) (ho : o < 65536) (hc : c < 65536) : x * y ≤ 4294836225 ∧ c + o + x * y ≤ 4294967295 ∧ (c + o + x * y) / 65536 < 65536 := by
  have h : x * y ≤ 65535 * 65535 := Nat.mul_le_mul (by omega) (by omega)
  omega

set_option maxRecDepth 100000 in
set_option maxHeartbeats 3200000 in
theorem rtimes_any (v0 v1 : Value) (l0 l1 : List Nat) (w : World) (h0 : At w .i64 v0 l0) (h1 : At w .i64 v1 l1) (s0 : Small D l0) (s1 : Small D l1)
    (hl0 : l0.length ≤ 4398046511104) (hl1 : l1.length ≤ 4398046511104) : Calls Try.prog 69 #[v0, v1] w (RAt .i64 (dig D (val D l0 * val D l1)) w) := by
  have g1 : ∀ (k : Nat) W, Below w.heap.size w W → Calls Try.prog 87 #[v1, .int .i64 (k : Nat)] W fun e w' => e = .returned (.int .i64 (l1[k]?.getD 0 : Nat)) ∧ w' = W := fun k W hb => at_any v1 l1 k W (h1.below hb)
  have G1 := hid g1
  clear g1
  obtain ⟨p0, c0, rfl, a1, a2, a3, a4⟩ := h0
  obtain ⟨p1, c1, rfl, b1, b2, b3, -⟩ := h1
  unfold maxLen at a2 b2
  go_enter Try.func69, Try.ntmps69
  go_wp2_with (first
    | (at_make; refine wpList_full_at rfl _ _ 65 rfl elemInts w.heap.size _ _ _ _ (l0.length + l1.length + 1) rfl rfl (by first | rfl | omega | (simp; done)) (by first | rfl | omega | (simp; done)) (by omega) (by simp [maxLen]; omega) (Nat.le_refl _) ?_; intro vo w1 ho hb1 hs1 hvo; subst hvo))
  go_loopw [18] (fun i wr => ∃ (k : Nat) (O : List Nat), k ≤ l0.length ∧ i = .int .i64 (k : Nat) ∧ Own wr w.heap.size 3 .i64 (.slice (some ⟨w.heap.size, 0, none⟩) (l0.length + l1.length + 1) (l0.length + l1.length + 1)) O ∧ Hid (O.length = l0.length + l1.length + 1) ∧ Small D O ∧
      Hid (∀ j, k + l1.length ≤ j → O[j]?.getD 0 = 0) ∧ Hid (val D O = val D (l0.take k) * val D l1) ∧ Below w.heap.size w wr ∧ w.heap.size ≤ wr.heap.size) (fun i _ => l0.length - (intOf i).toNat)
  case atStart => exact ⟨0, List.replicate (l0.length + l1.length + 1) 0, Nat.zero_le _, rfl, ho, by simp [Hid], small_zeros (by decide) _, by unfold Hid; intro j _; simp [List.getElem?_replicate]; split <;> rfl, by unfold Hid; simp [val_zeros, val], hb1, hs1⟩
  case round =>
    obtain ⟨k, O, hk, rfl, hown, hO, hsO, hz, hv, hbel, hsz⟩ := hrel
    by_cases hkl : k < l0.length
    · obtain ⟨b, off, rfl, hbb, hcell⟩ := a4 (by omega)
      have x0 := small_get s0 k hkl
      obtain ⟨x, hx⟩ : ∃ x, x = l0[k] := ⟨_, rfl⟩
      have hcx := hcell k hkl
      rw [← hx] at x0 hcx
      have Hx := hid hx; have Hcx := hid hcx; clear hx hcell a4 hcx
      unfold D at x0
      go_wp2_with fail
      go_loopw [7, 8] (fun c j wq => ∃ (i c' : Nat) (Q : List Nat), (i ≤ l1.length ∨ (i = l1.length + 1 ∧ c' = 0)) ∧ j = .int .i64 (i : Nat) ∧ c = .int .i64 (c' : Nat) ∧ c' < 65536 ∧ Own wq w.heap.size 3 .i64 (.slice (some ⟨w.heap.size, 0, none⟩) (l0.length + l1.length + 1) (l0.length + l1.length + 1)) Q ∧ Hid (Q.length = l0.length + l1.length + 1) ∧ Small D Q ∧
        Hid (∀ j, k + 1 + l1.length ≤ j → Q[j]?.getD 0 = 0) ∧ Hid (i ≤ l1.length → Q[k + l1.length]?.getD 0 = 0) ∧ Hid (val D Q + c' * D ^ (k + i) = val D (l0.take k) * val D l1 + D ^ k * (x * val D (l1.take i))) ∧ Below w.heap.size w wq ∧ w.heap.size ≤ wq.heap.size) (fun _ j _ => l1.length + 2 - (intOf j).toNat)
      case atStart => exact ⟨0, 0, O, Or.inl (Nat.zero_le _), rfl, rfl, by omega, hown, hO, hsO, by intro j hj; exact hz.out j (by omega), by intro _; exact hz.out _ (Nat.le_refl _), by have := hv.out; unfold Hid; simp [val, this], hbel, hsz⟩
      case round =>
        obtain ⟨i, c', Q, hi, rfl, rfl, hc', hown', hQ, hsQ, hzQ, hzK, hvQ, hbel', hsz'⟩ := hrel
        by_cases hgo : i < l1.length ∨ 0 < c'
        · have hil : i ≤ l1.length := by omega
          have e0 : wr.cell? ⟨b, off + k, none⟩ = some (.int .i64 (x : Nat)) := (hbel'.cell (p := ⟨b, off + k, none⟩) hbb).trans Hcx.out
          obtain ⟨y, hy⟩ : ∃ y, y = l1[i]?.getD 0 := ⟨_, rfl⟩
          have y0 : y < 65536 := by rw [hy]; exact small_getD s1 (by decide) i
          have t1 := fun n => G1.out i (wr.drewN n) (below_drewN hbel' n)
          rw [← hy] at t1
          have T1 := hid t1; have Hy := hid hy; clear t1 hy
          have hkq : k + i < Q.length := by rw [hQ.out]; omega
          obtain ⟨cc0, f0⟩ := hown'.cell (k + i) hkq
          have o0 := small_get hsQ (k + i) hkq
          obtain ⟨o, ho'⟩ : ∃ o, o = Q[k + i] := ⟨_, rfl⟩
          rw [← ho'] at cc0 o0
          have Ho := hid ho'; clear ho'
          unfold D at o0
          obtain ⟨m1, m2, m3⟩ := dsum_lt x0 y0 o0 hc'
          obtain ⟨P, hP⟩ : ∃ P, P = c' + o + x * y := ⟨_, rfl⟩
          rw [← hP] at m2 m3
          have q1 : (x : Int) * (y : Int) ≤ 4294836225 := by
            have : ((x * y : Nat) : Int) ≤ 4294836225 := by omega
            rwa [Int.natCast_mul] at this
          have q2 : 0 ≤ (x : Int) * (y : Int) := by rw [← Int.natCast_mul]; omega
          have q3 : (c' : Int) + (o : Int) + (x : Int) * (y : Int) = (P : Int) := by rw [hP]; simp
          have HP := hid hP; have Q3 := hid q3
          clear hP q3
          have hset := hown'.set (k + i) (P % 65536)
          have hv' : val D (Q.set (k + i) (P % 65536)) + P / 65536 * D ^ (k + (i + 1)) = val D (l0.take k) * val D l1 + D ^ k * (x * val D (l1.take (i + 1))) := by
            have := rtimes_step (DI := D ^ k) (DJ := D ^ i) (x := x) (y := y) hkq (show P = c' + Q[k + i] + x * y by rw [← Ho.out]; exact HP.out) (Nat.pow_add ..) hvQ.out
            rw [val_take_getD D l1 i, ← Hy.out]
            exact this
          have hz' : ∀ j, k + 1 + l1.length ≤ j → (Q.set (k + i) (P % 65536))[j]?.getD 0 = 0 := fun j hj => by
            rw [List.getElem?_set_ne (by omega)]; exact hzQ.out j hj
          have hzk' : i + 1 ≤ l1.length → (Q.set (k + i) (P % 65536))[k + l1.length]?.getD 0 = 0 := fun h => by
            rw [List.getElem?_set_ne (by omega)]; exact hzK.out (by omega)
          have hn : i + 1 ≤ l1.length ∨ (i + 1 = l1.length + 1 ∧ P / 65536 = 0) := by
            by_cases h : i < l1.length
            · exact Or.inl (by omega)
            · right
              have e : i = l1.length := by omega
              refine ⟨by omega, ?_⟩
              have y00 : y = 0 := by rw [Hy.out, List.getElem?_eq_none (by omega)]; rfl
              have o00 : o = 0 := by
                have := hzK.out hil
                rw [Ho.out]
                rw [← e] at this
                simpa [hkq] using this
              rw [HP.out, y00, o00]; omega
          have Hv' := hid hv'; have Hz' := hid hz'; have Hzk' := hid hzk'; have Hn := hid hn
          clear hv' hz' hzk' hn hi
          rcases (by omega : i < l1.length ∨ (¬ i < l1.length ∧ 0 < c')) with h | ⟨h, h'⟩
          all_goals
            go_wp2_with fail
            go_quiet ((go_at_call 87; exact Calls.quiet_of_same (T1.out _)))
            go_wp2_with fail
            have r1 : ((c' : Int) + (o : Int) + (x : Int) * (y : Int)) / 65536 = ((P / 65536 : Nat) : Int) := by rw [Q3.out]; omega
            have r2 : ((c' : Int) + (o : Int) + (x : Int) * (y : Int)) % 65536 = ((P % 65536 : Nat) : Int) := by rw [Q3.out]; omega
            rw [r1, r2]
            have hset := (hown'.kept (below_drewN (Below.refl _ _) nq)).set (k + i) (P % 65536)
            go_roundw
            case rel => exact ⟨i + 1, P / 65536, Q.set (k + i) (P % 65536), Hn.out, by go_num, rfl, m3, hset.1, by unfold Hid; rw [List.length_set]; exact hQ.out, small_set hsQ _ (Nat.mod_lt _ (by decide)), Hz'.out, Hzk'.out, Hv'.out,
              (below_drewN hbel' nq).setCell (p := ⟨w.heap.size, k + i, none⟩) (Nat.le_refl _) _, by simpa [World.setCell] using hsz'⟩
            case measure => (simp [intOf] <;> omega)
        · have hc0 : c' = 0 := by omega
          subst hc0
          have h : ¬ i < l1.length := by omega
          have hv' : Hid (val D Q = val D (l0.take (k + 1)) * val D l1) := by
            have := hvQ.out
            rw [Nat.zero_mul, Nat.add_zero, val_take_ge D l1 i (by omega)] at this
            unfold Hid
            rw [this, val_take_succ D l0 k hkl, ← Hx.out, Nat.add_mul, Nat.mul_assoc]
          clear hgo hi hvQ
          go_wp2_with fail
          go_roundw
          case rel => exact ⟨k + 1, Q, by omega, by go_num, hown', hQ, hsQ, hzQ.out, hv'.out, hbel', hsz'⟩
          case measure => (simp [intOf] <;> omega)
    · obtain rfl : k = l0.length := by omega
      have hv' : Hid (strip O = dig D (val D l0 * val D l1)) := by
        have := hv.out
        rw [List.take_length] at this
        unfold Hid
        rw [← this, strip_dig D2 hsO]
      clear a4
      go_wp2_with (go_at_call 76; refine (rtrim_any _ O _ hown.at).mono ?_; rintro e w' ⟨v', rfl, hv'', rfl⟩)
      go_ret
      exact ⟨_, rfl, by rw [← hv'.out]; exact hv'', hbel⟩
end Go.Proofs.Yteiniokddopacaa
/- elenchusref01.Mul. -/
namespace Go.Proofs.Yteiniokddopacaa
open Go.RowKit Big

theorem sz_D_W (n : Nat) : sz D n ≤ 4 * sz W n := by
  refine sz_le_of_lt D2 ?_
  rw [Nat.pow_mul, show D ^ 4 = W from rfl]
  exact lt_pow_sz W2 n

set_option maxRecDepth 100000 in
set_option maxHeartbeats 1600000 in
theorem RMul_any (v0 v1 : Value) (a b : Int) (w : World) (h0 : RawAt w v0 a) (h1 : RawAt w v1 b) (ha : sz W a.natAbs ≤ 549755813888) (hb : sz W b.natAbs ≤ 549755813888) :
    Calls Try.prog 47 #[v0, v1] w (RInt (a * b) w) := by
  obtain ⟨n0, s0, l0, rfl, a0, b0, c0, rfl⟩ := h0
  obtain ⟨n1, s1, l1, rfl, a1, b1, c1, rfl⟩ := h1
  rw [sg_natAbs] at ha hb
  have g0 : ∀ W', Below w.heap.size w W' → Calls Try.prog 61 #[s0] W' (RAt .i64 (dig D (val W l0)) W') := fun W' hb => Digits_any s0 l0 W' (a0.below hb) b0 (by omega)
  have g1 : ∀ W', Below w.heap.size w W' → Calls Try.prog 61 #[s1] W' (RAt .i64 (dig D (val W l1)) W') := fun W' hb => Digits_any s1 l1 W' (a1.below hb) b1 (by omega)
  obtain ⟨r, hr⟩ : ∃ r, r = sg n0 (val W l0) * sg n1 (val W l1) := ⟨_, rfl⟩
  rw [← hr]
  have Hr : Hid (sg (n0 != n1) (val W l0 * val W l1) = r) := by unfold Hid; rw [sg_mul, hr]
  clear hr
  generalize val W l0 = x at *
  generalize val W l1 = y at *
  have d0 : sz D x ≤ 2199023255552 := Nat.le_trans (sz_D_W x) (by omega)
  have d1 : sz D y ≤ 2199023255552 := Nat.le_trans (sz_D_W y) (by omega)
  have dxy : sz D (x * y) ≤ 8796093022208 := Nat.le_trans (sz_mul D2 x y) (by omega)
  have wxy : sz W (x * y) ≤ 2199023255552 := Nat.le_trans (sz_mul W2 x y) (by omega)
  have ht : ∀ W' u u', At W' .i64 u (dig D x) → At W' .i64 u' (dig D y) → Calls Try.prog 69 #[u, u'] W' (RAt .i64 (dig D (x * y)) W') := fun W' u u' hu hu' => by
    have := rtimes_any u u' _ _ W' hu hu' (small_dig D2 x) (small_dig D2 y) (by show sz D x ≤ _; omega) (by show sz D y ≤ _; omega)
    rwa [val_dig D2, val_dig D2] at this
  have hf : ∀ W' u, At W' .i64 u (dig D (x * y)) → Calls Try.prog 60 #[u] W' (RAt .u64 (dig W (x * y)) W') := fun W' u hu => by
    have := From_any u _ W' hu (small_dig D2 _) dxy
    rwa [val_dig D2] at this
  have hw : ∀ W' u, At W' .u64 u (dig W (x * y)) → Calls Try.prog 40 #[.bool (n0 != n1), u] W' (RInt r W') := fun W' u hu => by
    have := Whole_any (n0 != n1) u _ W' hu (small_dig W2 _) wxy
    rw [val_dig W2, Hr.out] at this
    exact this
  have G0 := hid g0; have G1 := hid g1; have HT := hid ht; have HF := hid hf; have HW := hid hw
  clear g0 g1 ht hf hw a0 a1 b0 b1 c0 c1 ha hb Hr
  go_enter Try.func47, Try.ntmps47
  go_wp2_with fail
  generalize hW : World.alloc (World.alloc (World.alloc w _) _) _ = W3
  have bw : Below w.heap.size w W3 := by rw [← hW]; exact ((below1 _ _).alloc (by simp) _).alloc (by simp; omega) _
  have hp : Pair W3 (w.heap.size + 1 + 1) 25 := by rw [← hW]; exact Pair.new2 ..
  obtain ⟨c00, c01, c10, c11, -⟩ : Two W3 w.heap.size (.bool n0) s0 (.bool n1) s1 := by rw [← hW]; exact (Two.new w _ _ _ _ _).below (below1 _ _)
  have z3 : w.heap.size + 3 ≤ W3.heap.size := by rw [← hW]; simp
  have bw' := hid bw
  clear hW
  go_region_held3 (fun w' => w'.cell? ⟨w.heap.size, 0, none⟩ = some (.bool n0) ∧ w'.cell? ⟨w.heap.size, 1, none⟩ = some s0 ∧ w'.cell? ⟨w.heap.size + 1, 0, none⟩ = some (.bool n1) ∧ w'.cell? ⟨w.heap.size + 1, 1, none⟩ = some s1 ∧ Pair w' (w.heap.size + 1 + 1) 25)
    (first | (go_split_ands; (try dsimp only); (repeat' apply And.intro) <;> first | assumption | exact Pair.drew ‹_› | exact Pair.below ‹_› hb9 | exact Pair.below ‹_› hb8 | exact Pair.below ‹_› hb7 | exact Pair.below ‹_› hb6 | exact Pair.below ‹_› hb5 | exact Pair.below ‹_› hb4 | exact Pair.below ‹_› hb3 | exact Pair.below ‹_› hb2 | exact Pair.below ‹_› hb1 | exact (hb9.cell (by first | omega | (simp; omega) | (simp; done))).trans ‹_› | exact (hb8.cell (by first | omega | (simp; omega) | (simp; done))).trans ‹_› | exact (hb7.cell (by first | omega | (simp; omega) | (simp; done))).trans ‹_› | exact (hb6.cell (by first | omega | (simp; omega) | (simp; done))).trans ‹_› | exact (hb5.cell (by first | omega | (simp; omega) | (simp; done))).trans ‹_› | exact (hb4.cell (by first | omega | (simp; omega) | (simp; done))).trans ‹_› | exact (hb3.cell (by first | omega | (simp; omega) | (simp; done))).trans ‹_› | exact (hb2.cell (by first | omega | (simp; omega) | (simp; done))).trans ‹_› | exact (hb1.cell (by first | omega | (simp; omega) | (simp; done))).trans ‹_› | exact Pair.set1 (Pair.set0 ‹_› _) _ _ _ | exact (cell_stored _ (by first | (dsimp only; omega) | (simp; done) | (simp; omega)) _ _).trans ‹_› | exact Pair.drew (Pair.below ‹_› (below1 _ _)) | exact Pair.below ‹_› (below1 _ _) | exact Pair.far ‹_› (by omega) hb1 | exact Pair.new .. | exact Pair.new1 .. | exact Pair.new2 .. | (go_keep; done)) | (go_keep; done))
    (first
      | (go_at_call_of 61 (s0); (fail_if_success have _t := i1); refine (G0.out _ (Below.drew bw'.out)).mono ?_; rintro e w1 ⟨v1, rfl, i1, hb1⟩; have hz1 : w.heap.size + 3 ≤ w1.heap.size := (by have := hb1.size; simp at this; omega); have bw1 := hid (bw'.out.drew.trans (hb1.mono (B' := w.heap.size) (by simp; omega))))
      | (go_at_call_of 61 (s1); refine (G1.out _ bw1.out).mono ?_; rintro e w2 ⟨v2, rfl, i2, hb2⟩; have i1' := i1.below hb2; have hz2 : w.heap.size + 3 ≤ w2.heap.size := (by have := hb2.size; omega); have bw2 := hid (bw1.out.trans (hb2.mono (B' := w.heap.size) (by omega))))
      | (go_at_call 69; refine (HT.out _ _ _ i1' i2).mono ?_; rintro e w3 ⟨v3, rfl, i3, hb3⟩; have hz3 : w.heap.size + 3 ≤ w3.heap.size := (by have := hb3.size; omega); have bw3 := hid (bw2.out.trans (hb3.mono (B' := w.heap.size) (by omega))))
      | (go_at_call 60; refine (HF.out _ _ i3).mono ?_; rintro e w4 ⟨v4, rfl, i4, hb4⟩; have hz4 : w.heap.size + 3 ≤ w4.heap.size := (by have := hb4.size; omega); have bw4 := hid (bw3.out.trans (hb4.mono (B' := w.heap.size) (by omega))))
      | (go_at_call 40; refine (HW.out _ _ i4).mono ?_; rintro e w5 ⟨v5, rfl, hi5, hb5⟩; have hz5 : w.heap.size + 3 ≤ w5.heap.size := (by have := hb5.size; omega); have bw5 := hid (bw4.out.trans (hb5.mono (B' := w.heap.size) (by omega))); obtain ⟨p5, n5, c5, rfl, hi5⟩ := hi5.shape; have hpr := Pair.below (by go_split_ands; assumption) hb5; obtain ⟨_, _, q0, q1, q2, q3⟩ := hpr.cells))
  go_wp2
  exact bodyPost_ret (v := .agg #[.bool (decide (r < 0)), .slice p5 n5 c5]) (by simp [results, Try.results47, go_sem, q0, q1]) rfl
    ⟨_, rfl, hi5.stored hpr _ _ _ _, Below.stored bw5.out (by omega) _ _⟩
end Go.Proofs.Yteiniokddopacaa
/- elenchusref01.parts: quotient and rest, bit by bit. -/
namespace Go.Proofs.Yteiniokddopacaa
open Go.RowKit Big

/-- one bit more -/
theorem bit_step {pre b t r q h bit : Nat} (hb : 0 < b) (hr : r = pre % b) (hq : q * h + t = pre / b) (hbit : bit ≤ 1) :
    (2 * r + bit < b → 2 * r + bit = (2 * pre + bit) % b ∧ q * (2 * h) + 2 * t = (2 * pre + bit) / b) ∧
    (b ≤ 2 * r + bit → 2 * r + bit - b = (2 * pre + bit) % b ∧ q * (2 * h) + (2 * t + 1) = (2 * pre + bit) / b) := by
  have e := Nat.div_add_mod pre b
  rw [← hr, ← hq] at e
  have hrb : r < b := by rw [hr]; exact Nat.mod_lt _ hb
  have e2 : q * (2 * h) = 2 * (q * h) := Nat.mul_left_comm ..
  have e3 : b * (2 * (q * h + t)) = 2 * (b * (q * h + t)) := Nat.mul_left_comm ..
  refine ⟨fun hlt => ?_, fun hge => ?_⟩
  · have e4 : 2 * pre + bit = b * (2 * (q * h + t)) + (2 * r + bit) := by omega
    rw [e4, Nat.mul_add_mod, Nat.mod_eq_of_lt hlt, Nat.mul_add_div hb, Nat.div_eq_of_lt hlt, e2]
    exact ⟨rfl, by omega⟩
  · have e4 : 2 * pre + bit = b * (2 * (q * h + t) + 1) + (2 * r + bit - b) := by rw [Nat.mul_add]; omega
    have hlt : 2 * r + bit - b < b := by omega
    rw [e4, Nat.mul_add_mod, Nat.mod_eq_of_lt hlt, Nat.mul_add_div hb, Nat.div_eq_of_lt hlt, e2]
    exact ⟨rfl, by omega⟩
theorem bit_pre (P x k : Nat) (hk : k ≤ 15) : 2 * (P * 2 ^ (16 - (k + 1)) + x / 2 ^ (k + 1)) + x / 2 ^ k % 2 = P * 2 ^ (16 - k) + x / 2 ^ k := by
  have e : x / 2 ^ (k + 1) = x / 2 ^ k / 2 := by rw [Nat.pow_succ, Nat.div_div_eq_div_mul]
  have e2 : 2 ^ (16 - k) = 2 * 2 ^ (16 - (k + 1)) := by
    rw [show 16 - k = (16 - (k + 1)) + 1 by omega, Nat.pow_succ, Nat.mul_comm]
  rw [e, e2, Nat.mul_left_comm]
  omega
theorem digit_lt {q t P b h x k : Nat} (hb : 0 < b) (hq : q = P / b) (h1 : q * h + t = (P * h + x / 2 ^ k) / b) (hx : x / 2 ^ k < h) : t < h := by
  have e : P < (q + 1) * b := by rw [hq, Nat.mul_comm]; exact Nat.lt_mul_div_succ P hb
  have e1 : P * h + x / 2 ^ k < (q + 1) * h * b := by
    have : (P + 1) * h ≤ (q + 1) * b * h := Nat.mul_le_mul_right _ e
    rw [Nat.add_mul] at this
    have e2 : (q + 1) * b * h = (q + 1) * h * b := Nat.mul_right_comm ..
    omega
  have e3 : (P * h + x / 2 ^ k) / b < (q + 1) * h := by rw [Nat.div_lt_iff_lt_mul hb]; exact e1
  rw [← h1, Nat.add_mul] at e3
  omega
theorem bits_left (x k : Nat) (hx : x < 65536) (hk : k ≤ 16) : x / 2 ^ k < 2 ^ (16 - k) := by
  rw [Nat.div_lt_iff_lt_mul (Nat.two_pow_pos k), ← Nat.pow_add, show 16 - k + k = 16 by omega]; exact hx

def RParts (q r : Nat) (w : World) (e : Ending) (w' : World) : Prop := ∃ v v', e = .returned (.tuple #[v, v']) ∧ At w' .i64 v (dig D q) ∧ At w' .i64 v' (dig D r) ∧ Below w.heap.size w w'

theorem wrap64_bit (z p : Nat) (hz : z ≤ 65536) (hp : p ≤ 65536) : wrap64 ((z : Int) + wrap64 ((p : Nat) : Int)) = ((z + p : Nat) : Int) := by
  have e : wrap64 ((p : Nat) : Int) = (p : Int) := by unfold wrap64; omega
  rw [e]
  unfold wrap64; omega
set_option maxRecDepth 100000 in
set_option maxHeartbeats 6400000 in
theorem rparts_any (v0 v1 : Value) (l0 : List Nat) (m : Nat) (w : World) (h0 : At w .i64 v0 l0) (h1 : At w .i64 v1 (dig D m)) (s0 : Small D l0) (hm : 0 < m)
    (hl0 : l0.length ≤ 4398046511104) (hl1 : sz D m ≤ 2199023255552) : Calls Try.prog 62 #[v0, v1] w (RParts (val D l0 / m) (val D l0 % m) w) := by
  have hadd : ∀ (r : Nat) (W : World) (u : Value), At W .i64 u (dig D r) → r < m → Calls Try.prog 70 #[u, u] W (RAt .i64 (dig D (r + r)) W) := fun r W u hu hr => by
    have hz : sz D r ≤ 2199023255552 := Nat.le_trans (sz_mono D2 (Nat.le_of_lt hr)) hl1
    have := rplus_any u u (dig D r) (dig D r) W hu hu (small_dig D2 r) (small_dig D2 r) (by show sz D r ≤ _; omega) (by show sz D r ≤ _; omega)
    rwa [val_dig D2] at this
  have hadd2 : ∀ (r b : Nat) (W : World) (u u' : Value), At W .i64 u (dig D (r + r)) → At W .i64 u' (dig D b) → r < m → b ≤ 1 → Calls Try.prog 70 #[u, u'] W (RAt .i64 (dig D (r + r + b)) W) := fun r b W u u' hu hu' hr hb => by
    have hz : sz D r ≤ 2199023255552 := Nat.le_trans (sz_mono D2 (Nat.le_of_lt hr)) hl1
    have hz2 : sz D (r + r) ≤ 2199023255552 + 1 := sz_add D2 hz hz
    have hz3 : sz D b ≤ 1 := sz_le_of_lt D2 (by unfold D; omega)
    have := rplus_any u u' (dig D (r + r)) (dig D b) W hu hu' (small_dig D2 _) (small_dig D2 _) (by show sz D (r + r) ≤ _; omega) (by show sz D b ≤ _; omega)
    rwa [val_dig D2, val_dig D2] at this
  have hcmp : ∀ (r : Nat) (W : World) (u : Value), At W .i64 u (dig D r) → Below w.heap.size w W → Calls Try.prog 77 #[u, v1] W (ROrd (ord r m) W) := fun r W u hu hb => rcompare_any u v1 r m W hu (h1.below hb)
  have hless : ∀ (r : Nat) (W : World) (u : Value), At W .i64 u (dig D r) → Below w.heap.size w W → m ≤ r → r < m + m → Calls Try.prog 72 #[u, v1] W (ROwn 3 .i64 (dig D (r - m)) W) := fun r W u hu hb hmr hr => by
    have hz : sz D r ≤ 2199023255552 + 1 := Nat.le_trans (sz_mono D2 (Nat.le_of_lt hr)) (sz_add D2 hl1 hl1)
    have := rless_own u v1 (dig D r) (dig D m) W hu (h1.below hb) (small_dig D2 r) (small_dig D2 m) (by show sz D r ≤ _; omega) (sz_mono D2 hmr) (by rw [val_dig D2, val_dig D2]; exact hmr)
    rwa [val_dig D2, val_dig D2] at this
  have Hadd := hid hadd; have Hadd2 := hid hadd2; have Hcmp := hid hcmp; have Hless := hid hless
  clear hadd hadd2 hcmp hless
  obtain ⟨p0, c0, rfl, a1, a2, a3, a4⟩ := h0
  unfold maxLen at a2
  clear h1 hl1
  go_enter Try.func62, Try.ntmps62
  go_wp2_with (first
    | (at_make; refine wpList_full_at rfl _ _ 65 rfl elemInts w.heap.size _ _ _ _ l0.length rfl rfl (by first | rfl | omega | (simp; done)) (by first | rfl | omega | (simp; done)) (by omega) (by simp [maxLen]; omega) (Nat.le_refl _) ?_; intro vo w1 ho hb1 hs1 hvo; subst hvo))
  have hstart : Hid (val D ((List.replicate l0.length 0).drop l0.length) = val D (l0.drop l0.length) / m) := by unfold Hid; simp [val]
  have hstart2 : Hid (val D (l0.drop l0.length) % m = 0) := by unfold Hid; simp [val]
  go_loopw [7, 8] (fun rest i wr => ∃ (k : Nat) (Z : List Nat), k ≤ l0.length ∧ i = .int .i64 ((k : Int) - 1) ∧ At wr .i64 rest (dig D (val D (l0.drop k) % m)) ∧ Own wr w.heap.size 3 .i64 (.slice (some ⟨w.heap.size, 0, none⟩) l0.length l0.length) Z ∧ Hid (Z.length = l0.length) ∧ Small D Z ∧
      Hid (val D (Z.drop k) = val D (l0.drop k) / m) ∧ Hid (∀ j, j < k → Z[j]?.getD 0 = 0) ∧ Below w.heap.size w wr ∧ w.heap.size ≤ wr.heap.size) (fun _ i _ => (intOf i + 1).toNat)
  case atStart => exact ⟨l0.length, List.replicate l0.length 0, Nat.le_refl _, rfl, by rw [hstart2.out]; exact At.nil _ _, ho, by simp [Hid], small_zeros (by decide) _, hstart.out, by intro j _; simp [List.getElem?_replicate]; split <;> rfl, hb1, hs1⟩
  case round =>
    obtain ⟨k, Z, hk, rfl, hrest, hown, hZ, hsZ, hv, hz, hbel, hsz⟩ := hrel
    by_cases hk0 : 0 < k
    · obtain ⟨k, rfl⟩ : ∃ k', k = k' + 1 := ⟨k - 1, by omega⟩
      obtain ⟨b, off, rfl, hbb, hcell⟩ := a4 (by omega)
      have x0 := small_get s0 k (by omega)
      obtain ⟨x, hx⟩ : ∃ x, x = l0[k]'(by omega) := ⟨_, rfl⟩
      have hcx := hcell k (by omega)
      rw [← hx] at x0 hcx
      have hdrop := val_drop_succ D l0 k (by omega)
      rw [← hx] at hdrop
      have Hdrop := hid hdrop; have Hcx := hid hcx; clear hx hcell a4 hcx hdrop
      unfold D at x0
      obtain ⟨P, hP⟩ : ∃ P, P = val D (l0.drop (k + 1)) := ⟨_, rfl⟩
      rw [← hP] at Hdrop hrest hv
      clear hP
      obtain ⟨q, hq⟩ : ∃ q, q = val D (Z.drop (k + 1)) := ⟨_, rfl⟩
      have Hq := hid hq
      rw [← hq] at hv
      clear hq
      have hkZ : k < Z.length := by rw [hZ.out]; omega
      have zk : Z[k] = 0 := by have := hz.out k (by omega); simpa [hkZ] using this
      have hset0 : Z.set k (2 ^ 16 * 0) = Z := by rw [Nat.mul_zero]; rw [← zk]; exact List.set_getElem_self ..
      have hpre : P * 2 ^ (16 - 16) + x / 2 ^ 16 = P := by rw [show 2 ^ 16 = 65536 from rfl, Nat.div_eq_of_lt x0]; simp
      have hst1 : Hid (q * 2 ^ (16 - 16) + 0 = (P * 2 ^ (16 - 16) + x / 2 ^ 16) / m) := by unfold Hid; rw [hpre, ← hv.out]; simp
      have HZk := hid hkZ
      have Hset0 := hid hset0; have Hpre := hid hpre
      clear zk hkZ hset0 hpre
      go_wp2_with fail
      rw [show (((k + 1 : Nat) : Int) - 1) = (k : Int) by omega]
      go_loopw [7, 9] (fun rest j wq => ∃ (kk t : Nat), kk ≤ 16 ∧ j = .int .i64 ((kk : Int) - 1) ∧ At wq .i64 rest (dig D ((P * 2 ^ (16 - kk) + x / 2 ^ kk) % m)) ∧ Own wq w.heap.size 3 .i64 (.slice (some ⟨w.heap.size, 0, none⟩) l0.length l0.length) (Z.set k (2 ^ kk * t)) ∧
        Hid (q * 2 ^ (16 - kk) + t = (P * 2 ^ (16 - kk) + x / 2 ^ kk) / m) ∧ Below w.heap.size w wq ∧ w.heap.size ≤ wq.heap.size) (fun _ j _ => (intOf j + 1).toNat)
      case atStart => exact ⟨16, 0, by omega, rfl, by rw [Hpre.out]; exact hrest, by rw [Hset0.out]; exact hown, hst1, hbel, hsz⟩
      case round =>
        obtain ⟨kk, t, hkk, rfl, hrest', hown', ht, hbel', hsz'⟩ := hrel
        by_cases hk1 : 0 < kk
        · obtain ⟨kk, rfl⟩ : ∃ k', kk = k' + 1 := ⟨kk - 1, by omega⟩
          have e0 : wr.cell? ⟨b, off + k, none⟩ = some (.int .i64 (x : Nat)) := (hbel'.cell (p := ⟨b, off + k, none⟩) hbb).trans Hcx.out
          obtain ⟨r, hr⟩ : ∃ r, r = (P * 2 ^ (16 - (kk + 1)) + x / 2 ^ (kk + 1)) % m := ⟨_, rfl⟩
          have hrm : r < m := by rw [hr]; exact Nat.mod_lt _ hm
          rw [← hr] at hrest'
          have Hr := hid hr
          clear hr
          go_wp2_with fail
          refine (Hadd.out r _ _ hrest' hrm).mono ?_
          rintro e w2 ⟨u2, rfl, hu2, hb2⟩
          have e2 : w2.cell? ⟨b, off + k, none⟩ = some (.int .i64 (x : Nat)) := (hb2.cell (p := ⟨b, off + k, none⟩) (Nat.lt_of_lt_of_le hbb hbel'.size)).trans e0
          have own2 := hown'.kept hb2
          have bel2 := Below.go hb2 hbel'
          clear e0 hb2 hown' hbel' hrest'
          obtain ⟨bit, hbit⟩ : ∃ b, b = x / 2 ^ kk % 2 := ⟨_, rfl⟩
          have hb1' : bit ≤ 1 := by omega
          have hbi : ((x : Int) / 2 ^ kk).tmod 2 = (bit : Int) := by
            have e : ((x : Int) / 2 ^ kk) = ((x / 2 ^ kk : Nat) : Int) := by simp
            rw [e, hbit]; rfl
          have Hbit := hid hbit; have Hbi := hid hbi
          clear hbit hbi
          go_wp2_with fail
          rw [Hbi.out]
          have hone := At.one w2 .i64 bit 3
          have hstr : strip [bit] = dig D bit := by
            have := strip_dig D2 (small_cons (show bit < D by unfold D; omega) (small_nil D))
            simpa [val] using this
          have htr := rtrim_any _ [bit] _ hone
          rw [hstr] at htr
          have Htr := hid htr
          clear hone hstr htr
          have b3 := below1 w2 (.cells #[.int .i64 (bit : Nat)] 3)
          have hu3 := hu2.below b3
          have e3 := (b3.cell (p := ⟨b, off + k, none⟩) (Nat.lt_of_lt_of_le hbb bel2.size)).trans e2
          have own3 := own2.kept b3
          have bel3 := Below.go b3 bel2
          clear b3 hu2 e2 own2 bel2
          generalize World.alloc w2 _ = w3 at *
          refine Htr.out.mono ?_
          rintro e w3' ⟨u4, rfl, hu4, rfl⟩
          go_wp2_with fail
          refine (Hadd2.out r bit _ _ _ hu3 hu4 hrm hb1').mono ?_
          rintro e w5 ⟨u5, rfl, hu5, hb5⟩
          have e5 := (hb5.cell (p := ⟨b, off + k, none⟩) (Nat.lt_of_lt_of_le hbb bel3.size)).trans e3
          have own5 := own3.kept hb5
          have bel5 := Below.go hb5 bel3
          clear hb5 own3 bel3 e3 hu3 hu4 Htr
          go_wp2_with fail
          have hc := Hcmp.out _ _ _ hu5 bel5
          have hbs := bit_step (pre := P * 2 ^ (16 - (kk + 1)) + x / 2 ^ (kk + 1)) (h := 2 ^ (16 - (kk + 1))) (q := q) (t := t) (bit := bit) hm Hr.out ht.out hb1'
          have h2h : 2 * 2 ^ (16 - (kk + 1)) = 2 ^ (16 - kk) := by
            rw [show 16 - kk = (16 - (kk + 1)) + 1 by omega, Nat.pow_succ, Nat.mul_comm]
          have hpre' := bit_pre P x kk (by omega)
          rw [← Hbit.out] at hpre'
          rw [hpre', h2h, show 2 * r + bit = r + r + bit by omega] at hbs
          have htl : t < 2 ^ (16 - (kk + 1)) := digit_lt hm hv.out ht.out (bits_left x (kk + 1) x0 (by omega))
          have hp2 : 2 ^ (kk + 1) * 2 ^ (16 - (kk + 1)) = 65536 := by rw [← Nat.pow_add, show kk + 1 + (16 - (kk + 1)) = 16 by omega]
          have hval : 2 ^ (kk + 1) * t + 2 ^ (kk + 1) ≤ 65536 := by
            have := Nat.mul_le_mul_left (2 ^ (kk + 1)) (show t + 1 ≤ 2 ^ (16 - (kk + 1)) from htl)
            rw [hp2, Nat.mul_add] at this; omega
          have hpw : 2 ^ (kk + 1) = 2 * 2 ^ kk := by rw [Nat.pow_succ, Nat.mul_comm]
          have hpp : 0 < 2 ^ kk := Nat.two_pow_pos kk
          have hst0 : 2 ^ (kk + 1) * t = 2 ^ kk * (2 * t) := by rw [Nat.pow_succ, Nat.mul_assoc]
          by_cases hlt : r + r + bit < m
          · rw [ord_lt (by omega)] at hc
            obtain ⟨g1, g2⟩ := hbs.1 hlt
            have Hc := hid hc; have G1 := hid g1; have G2 := hid g2; have Hst0 := hid hst0
            clear hc g1 g2 hbs h2h hpre' htl hp2 hval hpw hst0 hpp hlt
            go_wp2_with fail
            refine Hc.out.mono ?_
            rintro e w6 ⟨rfl, nn, rfl⟩
            go_wp2_with fail
            go_roundw
            case rel => exact ⟨kk, 2 * t, by omega, by go_num, by rw [← G1.out]; exact hu5.drewN nn, by rw [← Hst0.out]; exact own5.kept (below_drewN (Below.refl _ _) nn), G2.out, below_drewN bel5 nn, bel5.size⟩
            case measure => (simp [intOf] <;> omega)
          · obtain ⟨o, ho⟩ : ∃ o : Int, o = ord ((r + r + bit : Nat) : Int) m := ⟨_, rfl⟩
            have ho0 : 0 ≤ o := by
              rw [ho]
              rcases Nat.lt_or_ge m (r + r + bit) with h | h
              · rw [ord_gt (by omega)]; decide
              · rw [show r + r + bit = m by omega, ord_eq]; decide
            rw [← ho] at hc
            obtain ⟨g1, g2⟩ := hbs.2 (by omega)
            have hls := fun (W' : World) (hh : At W' .i64 u5 (dig D (r + r + bit))) (hb : Below w.heap.size w W') => Hless.out _ W' u5 hh hb (by omega) (by omega)
            have Hc := hid hc; have G1 := hid g1; have G2 := hid g2; have Hls := hid hls
            have hval' : 2 ^ (kk + 1) * t + 2 ^ kk = 2 ^ kk * (2 * t + 1) := by rw [hst0, Nat.mul_add, Nat.mul_one]
            have hv1 : 2 ^ (kk + 1) * t ≤ 65536 := by omega
            have hv2 : 2 ^ kk ≤ 65536 := by omega
            obtain ⟨z0, hz0⟩ : ∃ z, z = 2 ^ (kk + 1) * t := ⟨_, rfl⟩
            rw [← hz0] at own5 hval' hv1
            obtain ⟨pk, hpk⟩ : ∃ z, z = 2 ^ kk := ⟨_, rfl⟩
            have hv2' := hv2
            rw [← hpk] at hval' hv2'
            have Hval := hid hval'; have Hpk := hid hpk
            clear hc g1 g2 hbs h2h hpre' htl hp2 hval hpw hst0 hpp hls ho hz0 hval' hpk
            go_wp2_with fail
            refine Hc.out.mono ?_
            rintro e w6 ⟨rfl, nn, rfl⟩
            go_wp2_with fail
            refine (Hls.out _ (hu5.drewN nn) (below_drewN bel5 nn)).mono ?_
            rintro e w7 ⟨u7, rfl, hu7, hb7⟩
            have own7 := (own5.kept (below_drewN (Below.refl _ _) nn)).kept hb7
            have bel7 := Below.go hb7 (below_drewN bel5 nn)
            have hkl : k < (Z.set k z0).length := by rw [List.length_set]; exact HZk.out
            have hq5 := (own5.cell k hkl).1
            obtain ⟨cc0, f0⟩ := own7.cell k hkl
            rw [List.getElem_set_self] at cc0
            have HK := hid hkl
            clear hb7 own5 bel5 e5 hu5
            go_wp2_with fail
            have hpi : ((2 : Int) ^ kk) = ((pk : Nat) : Int) := by rw [Hpk.out]; simp
            rw [hpi, wrap64_bit z0 pk hv1 hv2']
            have hset := own7.set k (z0 + pk)
            rw [List.set_set, Hval.out, Hpk.out] at hset
            have hu8 := (hu7.other hset.2 (by intro g hg; have := hu7.row g hg; have := World.block_lt_of_cell? w5 _ hq5; simp at *; omega)).at
            rw [G1.out] at hu8
            have hvv : z0 + pk = 2 ^ kk * (2 * t + 1) := by rw [Hval.out, Hpk.out]
            rw [hvv]
            go_roundw
            case rel => exact ⟨kk, 2 * t + 1, by omega, by go_num, hu8, hset.1, G2.out, bel7.setCell (p := ⟨w.heap.size, k, none⟩) (Nat.le_refl _) _, by have := bel7.size; simpa [World.setCell] using this⟩
            case measure => (simp [intOf] <;> omega)
        · obtain rfl : kk = 0 := by omega
          have htl : t < 65536 := digit_lt (k := 0) hm hv.out ht.out (by simpa using x0)
          have hkl := HZk.out
          have hdrop := Hdrop.out
          have hv' : Hid (val D ((Z.set k t).drop k) = val D (l0.drop k) / m) := by
            unfold Hid
            rw [val_drop_succ D _ k (by rw [List.length_set]; exact hkl), List.getElem_set_self, List.drop_set_of_lt (by omega), ← Hq.out, hdrop]
            have := ht.out
            simp only [Nat.sub_zero, Nat.pow_zero, Nat.div_one] at this
            rw [show x + D * P = P * 2 ^ 16 + x by rw [Nat.mul_comm D P, Nat.add_comm]; rfl, ← this, Nat.mul_comm D q, Nat.add_comm]; rfl
          have hr' : (P * 2 ^ (16 - 0) + x / 2 ^ 0) % m = val D (l0.drop k) % m := by
            rw [hdrop]
            simp only [Nat.sub_zero, Nat.pow_zero, Nat.div_one]
            rw [Nat.mul_comm D P, Nat.add_comm]; rfl
          rw [hr'] at hrest'
          rw [Nat.pow_zero, Nat.one_mul] at hown'
          have hz' : Hid (∀ j, j < k → (Z.set k t)[j]?.getD 0 = 0) := fun j hj => by rw [List.getElem?_set_ne (by omega)]; exact hz.out j (by omega)
          have HZ' : Hid ((Z.set k t).length = l0.length) := by unfold Hid; rw [List.length_set]; exact hZ.out
          have sZ' := small_set hsZ k (show t < D from htl)
          clear hr' hkl hdrop ht htl hv hz
          go_wp2_with fail
          go_roundw
          case rel => exact ⟨k, Z.set k t, by omega, by go_num, hrest', hown', HZ', sZ', hv'.out, hz'.out, hbel', hsz'⟩
          case measure => (simp [intOf] <;> omega)
    · obtain rfl : k = 0 := by omega
      have hv' : Hid (strip Z = dig D (val D l0 / m)) := by
        have := hv.out
        simp only [List.drop_zero] at this
        unfold Hid
        rw [← this, strip_dig D2 hsZ]
      simp only [List.drop_zero] at hrest
      have htr := rtrim_any _ Z _ hown.at
      rw [hv'.out] at htr
      have Htr := hid htr
      clear a4 htr
      go_wp2_with fail
      refine Htr.out.mono ?_
      rintro e w' ⟨v', rfl, hv'', rfl⟩
      go_wp2_with fail
      go_ret2
      exact ⟨_, _, rfl, hv'', hrest, hbel⟩
end Go.Proofs.Yteiniokddopacaa
/- A region that draws its order: each operation is shown once to give its own fact, which lasts; the stores come last, one by one. -/
namespace Go.Proofs.Yteiniokddopacaa
open Go.RowKit

/-- a fact of a slot's value that lasts while memory grows -/
structure SFact where
  P : Value → World → Prop
  st : ∀ v w w', P v w → Below w.heap.size w w' → P v w'
def putAll (a : Act) : List Tmp → List Value → Act
  | d :: ds, v :: vs => putAll (a.put (some d) v) ds vs
  | _, _ => a
/-- i waits for j, by at most so many steps -/
def reach (md : Region.Mode) (ops : Array Oper) : Nat → Nat → Nat → Bool
  | 0, _, _ => false
  | f + 1, i, j => (ops[i]?).any fun o => (o.after.any fun e => Region.binds md e && e.on == j) || (o.after.any fun e => Region.binds md e && reach md ops f e.on j)
def storesWait (md : Region.Mode) (ops : Array Oper) (n : Nat) : Bool := (List.range ops.size).all fun i => decide (i < n) || (List.range n).all fun j => reach md ops 6 i j
def Closed (md : Region.Mode) (ops : Array Oper) (L : Array Bool) : Prop := ∀ j o, ops[j]? = some o → L.getD j false = true → ∀ e ∈ o.after, Region.binds md e = true → L.getD e.on false = true
theorem reach_listed {md : Region.Mode} {ops : Array Oper} {L : Array Bool} (hc : Closed md ops L) : ∀ (f i : Nat) (o : Oper) (j : Nat), ops[i]? = some o → (∀ e ∈ o.after, Region.binds md e = true → L.getD e.on false = true) → reach md ops f i j = true → L.getD j false = true
  | 0, _, _, _, _, _, h => by cases h
  | f + 1, i, o, j, ho, hall, h => by
    simp only [reach, ho, Option.any_some, Bool.or_eq_true] at h
    rcases h with h | h
    · obtain ⟨e, he, hb⟩ := Array.any_eq_true'.1 h
      simp only [Bool.and_eq_true, beq_iff_eq] at hb
      rw [← hb.2]; exact hall e he hb.1
    · obtain ⟨e, he, hb⟩ := Array.any_eq_true'.1 h
      simp only [Bool.and_eq_true] at hb
      have hl := hall e he hb.1
      cases hoe : ops[e.on]? with
      | none =>
        exfalso
        have h2 := hb.2
        cases f with
        | zero => cases h2
        | succ f => simp [reach, hoe] at h2
      | some o' => exact reach_listed hc f e.on o' j hoe (hc e.on o' hoe hl) hb.2
theorem getD_put {a : Act} {ds : List Tmp} {vs : List Value} {d : Tmp} {v : Value} (hd : d ∉ ds) : putAll (a.put (some d) v) ds vs = (putAll a ds vs).put (some d) v := by
  induction ds generalizing a vs with
  | nil => rfl
  | cons d' ds ih =>
    cases vs with
    | nil => rfl
    | cons v' vs =>
      simp only [putAll]
      have hne : d' ≠ d := fun e => hd (by simp [e])
      rw [Act.put_comm a v v' (x := some d) (y := some d') (by intro x hx hy; cases hx; cases hy; exact hne rfl)]
      exact ih (fun h => hd (by simp [h]))
theorem putAll_set {a : Act} {ds : List Tmp} {vs : List Value} {i : Nat} {d : Tmp} {v : Value} (hn : ds.Nodup) (hi : ds[i]? = some d) (hl : vs.length = ds.length) : (putAll a ds vs).put (some d) v = putAll a ds (vs.set i v) := by
  induction ds generalizing a vs i with
  | nil => simp at hi
  | cons d' ds ih =>
    cases vs with
    | nil => simp at hl
    | cons v' vs =>
      rw [List.nodup_cons] at hn
      cases i with
      | zero =>
        simp at hi; subst hi
        simp only [putAll, List.set_cons_zero]
        rw [← getD_put hn.1]
        congr 1
        unfold Act.put
        simp [Array.setIfInBounds_setIfInBounds]
      | succ i =>
        simp only [putAll, List.set_cons_succ]
        exact ih hn.2 (by simpa using hi) (by simpa using hl)

def dstsAre (ops : Array Oper) (n : Nat) (ds : List Tmp) : Bool := (List.range n).all fun i => (ops[i]?).all fun o => o.dst == ds[i]?
theorem getD_set_list {l : List Value} {i j : Nat} {v : Value} (h : i ≠ j) : (l.set i v).getD j undef = l.getD j undef := by
  simp [List.getD, List.getElem?_set_ne h]
theorem getD_set_list_self {l : List Value} {i : Nat} {v : Value} (h : i < l.length) : (l.set i v).getD i undef = v := by
  simp [List.getD, h]

theorem wpAny_facts {P : Program} {ops : Array Oper} {Q : Exit → Act → World → Prop} {a0 : Act} {w0 : World} (n s : Nat) (hsize : ops.size = n + s) (ds : List Tmp) (f : Nat → SFact) (al : List Nat)
    (hd : edgesDown .any ops = true) (hsw : storesWait .any ops n = true) (hdn : ds.Nodup) (hlen : ds.length = n) (hds : dstsAre ops n ds = true)
    (hal : ∀ i ∈ al, ∀ v w, (f i).P v w → ∃ g, v = .pointer (some ⟨g, 0, none⟩) ∧ g < w.heap.size)
    (hstep : ∀ i o, i < n → ops[i]? = some o → ∀ vs w, vs.length = n → Below w0.heap.size w0 w → (∀ e ∈ o.after, Region.binds .any e = true → (f e.on).P (vs.getD e.on undef) w) →
      ∀ K : Act → World → Prop, Shut (∀ v w', (f i).P v w' → Below w.heap.size w w' → (i ∈ al → v = .pointer (some ⟨w.heap.size, 0, none⟩)) → K ((putAll a0 ds vs).put o.dst v) w') →
        if Region.wanted o (yielded ops (putAll a0 ds vs).tmps) = true then Oper.wp P o (putAll a0 ds vs) w K Q else K ((putAll a0 ds vs).put o.dst undef) w)
    (hend : ∀ vs w, vs.length = n → Below w0.heap.size w0 w → (∀ i, i < n → (f i).P (vs.getD i undef) w) → (∀ i ∈ al, ∀ j ∈ al, i ≠ j → vs.getD i undef ≠ vs.getD j undef) →
      wpAny P .any ops Q s ((List.replicate n true ++ List.replicate s false).toArray) (putAll a0 ds vs) w) :
    ∀ (c : Nat) (L : Array Bool) (vs : List Value) (w : World), (L.toList.take n).count false = c → L.size = n + s → (∀ j, n ≤ j → j < n + s → L.getD j true = false) → Closed .any ops L → vs.length = n → Below w0.heap.size w0 w →
      (∀ i, i < n → L.getD i false = true → (f i).P (vs.getD i undef) w) → (∀ i ∈ al, ∀ j ∈ al, i < n → j < n → i ≠ j → L.getD i false = true → L.getD j false = true → vs.getD i undef ≠ vs.getD j undef) →
      (∀ i ∈ al, i < n) → wpAny P .any ops Q (c + s) L (putAll a0 ds vs) w := by
  intro c
  induction c with
  | zero =>
    intro L vs w hc hs hst hcl hvl hb hf hdist haln
    have hall : ∀ i, i < n → L.getD i false = true := fun i hi => by
      have hil : i < L.size := by omega
      cases hb : L[i] with
      | true => simp [Array.getD, hil, hb]
      | false =>
        exfalso
        have hmem : false ∈ L.toList.take n := by
          rw [List.mem_take_iff_getElem]
          exact ⟨i, by simp; omega, by simpa using hb⟩
        have := List.count_pos_iff.2 hmem
        omega
    have hL : L = (List.replicate n true ++ List.replicate s false).toArray := by
      apply Array.ext
      · simp [hs]
      · intro i hi hi2
        by_cases h : i < n
        · have := hall i h
          simp only [Array.getD, hi] at this
          simp [h]
          simpa using this
        · have := hst i (by omega) (by omega)
          simp only [Array.getD, hi] at this
          simp [List.getElem_append, h]
          simpa using this
    rw [Nat.zero_add, hL]
    exact hend vs w hvl hb (fun i hi => hf i hi (hall i hi)) (fun i hi j hj hne => hdist i hi j hj (haln i hi) (haln j hj) hne (hall i (haln i hi)) (hall j (haln j hj)))
  | succ c ih =>
    intro L vs w hc hs hst hcl hvl hb hf hdist haln
    have hnot : ¬ ∀ i, i < n → L.getD i false = true := fun hall => by
      have : (L.toList.take n).count false = 0 := by
        rw [List.count_eq_zero]
        intro hmem
        rw [List.mem_take_iff_getElem] at hmem
        obtain ⟨i, hi, hif⟩ := hmem
        have hi' : i < L.size := by simp at hi; omega
        have := hall i (by simp at hi; omega)
        have h2 : L.getD i false = L[i] := by simp [Array.getD, hi']
        rw [h2] at this
        rw [Array.getElem_toList] at hif
        rw [hif] at this
        cases this
      omega
    rw [show c + 1 + s = (c + s) + 1 by omega]
    refine ⟨fun hr => ?_, fun i hi => ?_⟩
    · exfalso
      apply hnot
      intro i hi
      have := all_listed hd (by rw [hs, hsize]) hr i (by omega)
      have hil : i < L.size := by omega
      simpa [Array.getD, hil] using this
    · obtain ⟨hun, o, ho, hall⟩ := mem_ready.1 hi
      have hio : i < ops.size := (Array.getElem?_eq_some_iff.1 ho).1
      have hil : i < L.size := by omega
      have hin : i < n := by
        rcases Nat.lt_or_ge i n with h | h
        · exact h
        · exfalso
          apply hnot
          intro j hj
          have h1 := List.all_eq_true.1 hsw i (by simpa using hio)
          simp only [Bool.or_eq_true, decide_eq_true_eq] at h1
          rcases h1 with h1 | h1
          · omega
          · exact reach_listed hcl 6 i o j ho hall (List.all_eq_true.1 h1 j (by simpa using hj))
      have hdst : o.dst = ds[i]? := by
        have h1 := List.all_eq_true.1 hds i (by simpa using hin)
        rw [ho] at h1
        simpa using h1
      have hdi : ds[i]? = some (ds[i]'(by omega)) := by simp
      refine wpOp_step ho (fun K hK => hstep i o hin ho vs w hvl hb (fun e he hbd => ?_) K (fun v w' hv hb' hp => ?_))
      · have hl := hall e he hbd
        have hlt : e.on < n := by
          rcases Nat.lt_or_ge e.on n with h | h
          · exact h
          · exfalso
            rcases Nat.lt_or_ge e.on (n + s) with h2 | h2
            · have := hst e.on h h2
              have hl2 : e.on < L.size := by omega
              simp only [Array.getD, hl2] at this hl
              simp at this hl
              rw [this] at hl; cases hl
            · have : ¬ e.on < L.size := by omega
              simp [Array.getD, this] at hl
        exact hf e.on hlt hl
      · apply hK
        rw [hdst, hdi, putAll_set hdn hdi (by omega)]
        have hset : ∀ j, i ≠ j → (L.setIfInBounds i true).getD j false = L.getD j false := fun j h => getD_set_ne false h
        refine ih (L.setIfInBounds i true) (vs.set i v) w' ?_ (by simpa using hs) ?_ ?_ (by simpa using hvl) (hb.trans (hb'.mono hb.size)) ?_ ?_ haln
        · have hf' : (L.toList.take n)[i]'(by simp; omega) = false := by
            simp only [List.getElem_take]
            simpa [Array.getD, hil] using hun
          have := count_false_set (L.toList.take n) i (by simp; omega) hf'
          rw [Array.toList_setIfInBounds, ← List.take_set] at *
          omega
        · intro j hj hj2
          rw [getD_set_ne true (by omega)]
          exact hst j hj hj2
        · intro j o' hjo hjl e he hbd
          by_cases hji : i = j
          · subst hji
            rw [ho] at hjo
            cases hjo
            exact getD_set_true (hall e he hbd)
          · rw [hset j hji] at hjl
            exact getD_set_true (hcl j o' hjo hjl e he hbd)
        · intro j hj hjl
          by_cases hji : i = j
          · subst hji
            rw [getD_set_list_self (by omega)]
            exact hv
          · rw [hset j hji] at hjl
            rw [getD_set_list hji]
            exact (f j).st _ _ _ (hf j hj hjl) hb'
        · intro j hj k hk hjn hkn hjk hjl hkl
          have old : ∀ x, x ∈ al → x < n → i ≠ x → (L.setIfInBounds i true).getD x false = true → vs.getD x undef ≠ .pointer (some ⟨w.heap.size, 0, none⟩) := fun x hx hxn hix hxl => by
            rw [hset x hix] at hxl
            obtain ⟨g, hg, hgl⟩ := hal x hx _ _ (hf x hxn hxl)
            rw [hg]
            intro e
            injection e with e
            injection e with e
            injection e with e
            omega
          by_cases hji : i = j
          · subst hji
            rw [getD_set_list_self (by omega), getD_set_list hjk, hp hj]
            exact (old k hk hkn hjk hkl).symm
          · by_cases hki : i = k
            · subst hki
              rw [getD_set_list_self (by omega), getD_set_list hji, hp hk]
              exact old j hj hjn hji hjl
            · rw [getD_set_list hji, getD_set_list hki]
              rw [hset j hji] at hjl
              rw [hset k hki] at hkl
              exact hdist j hj k hk hjn hkn hjk hjl hkl

theorem wp_region_facts {P : Program} {ops : Array Oper} {Q : Exit → Act → World → Prop} {id : Nat} {a0 : Act} {w0 : World} (n s : Nat) (ds : List Tmp) (vs0 : List Value) (f : Nat → SFact) (al : List Nat) (hm : P.follows .mixedOrders = true)
    (hsize : ops.size = n + s) (hd : edgesDown .any ops = true) (hsw : storesWait .any ops n = true) (hdn : ds.Nodup) (hlen : ds.length = n) (hds : dstsAre ops n ds = true) (hv0 : vs0.length = n) (haln : ∀ i ∈ al, i < n)
    (he : a0 = putAll a0 ds vs0) (hal : ∀ i ∈ al, ∀ v w, (f i).P v w → ∃ g, v = .pointer (some ⟨g, 0, none⟩) ∧ g < w.heap.size)
    (hstep : ∀ i o, i < n → ops[i]? = some o → ∀ vs w, vs.length = n → Below w0.heap.size w0 w → (∀ e ∈ o.after, Region.binds .any e = true → (f e.on).P (vs.getD e.on undef) w) →
      ∀ K : Act → World → Prop, Shut (∀ v w', (f i).P v w' → Below w.heap.size w w' → (i ∈ al → v = .pointer (some ⟨w.heap.size, 0, none⟩)) → K ((putAll a0 ds vs).put o.dst v) w') →
        if Region.wanted o (yielded ops (putAll a0 ds vs).tmps) = true then Oper.wp P o (putAll a0 ds vs) w K Q else K ((putAll a0 ds vs).put o.dst undef) w)
    (hend : ∀ vs w, vs.length = n → Below w0.heap.size w0 w → (∀ i, i < n → (f i).P (vs.getD i undef) w) → (∀ i ∈ al, ∀ j ∈ al, i ≠ j → vs.getD i undef ≠ vs.getD j undef) →
      wpAny P .any ops Q s ((List.replicate n true ++ List.replicate s false).toArray) (putAll a0 ds vs) w) : (Code.region id ops true).wp P Q a0 w0 := by
  refine wp_region_any hm ?_
  have := wpAny_facts (a0 := a0) (w0 := w0) n s hsize ds f al hd hsw hdn hlen hds hal hstep hend n (Array.replicate ops.size false) vs0 w0.drew
    (by rw [hsize]; simp [List.take_replicate, Nat.min_eq_left (Nat.le_add_right n s)]) (by simp [hsize]) (by intro j hj hj2; simp [Array.getD, hsize, hj2]) (by intro j o _ h; simp [Array.getD] at h) hv0 ((Below.refl _ _).drew)
    (by intro i _ h; simp [Array.getD] at h) (by intro i _ j _ _ _ _ h; simp [Array.getD] at h) haln
  rw [← he, ← hsize] at this
  exact this
theorem wpAny_one {P : Program} {ops : Array Oper} {Q : Exit → Act → World → Prop} {md : Region.Mode} {i fuel : Nat} {o : Oper} {listed : Array Bool} {a : Act} {w : World} (hr : Region.ready md ops listed = [i]) (ho : ops[i]? = some o)
    (h : ∀ K : Act → World → Prop, Shut (∀ a w, wpAny P md ops Q fuel (listed.setIfInBounds i true) a w → K a w) → if Region.wanted o (yielded ops a.tmps) = true then Oper.wp P o a w K Q else K (a.put o.dst undef) w) : wpAny P md ops Q (fuel + 1) listed a w := by
  refine ⟨fun h0 => (by rw [hr] at h0; cases h0), ?_⟩
  rw [hr]
  intro j hj
  obtain rfl : j = i := by simpa using hj
  exact wpOp_step ho (fun K hK => h K hK)
end Go.Proofs.Yteiniokddopacaa
