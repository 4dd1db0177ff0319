/- Texts put together: DivHalves, Gcd, RefGcd, DivZero, Few3. -/
import Derived.Test.YtlicmnlllappnaaDoorProductsCardM10
import Derived.Deep.RegionHeld3
import Derived.Deep.AppendLies
/- whole.divideHalves, whole.divide, whole.Div. -/
namespace Go.Proofs.YtlicmnlllappnaaDoor
open Go.RowKit Big

set_option maxRecDepth 100000 in
set_option maxHeartbeats 3200000 in
theorem divideHalves_any (v0 v1 : Value) (a b : Nat) (w : World) (h0 : At w .u32 v0 (dig H a)) (h1 : At w .u32 v1 (dig H b)) (hb : 0 < b) (hlen : (dig H a).length ≤ 2199023255552) (hlen' : (dig H b).length ≤ 2199023255552) :
    Calls Tryd.prog 75 #[v0, v1] w (RQuo (a / b) (a % b) w) := by
  have H0 := hid h0; have H1 := hid h1
  by_cases hlt : (dig H a).length < (dig H b).length
  · have hab : a < b := lt_of_sz_lt H2 hlt
    have e1 : a / b = 0 := Nat.div_eq_of_lt hab
    have e2 : a % b = a := Nat.mod_eq_of_lt hab
    rw [e1, e2]
    obtain ⟨p0, c0, rfl, -⟩ := h0
    obtain ⟨p1, c1, rfl, -⟩ := h1
    obtain ⟨la, hla⟩ : ∃ n, n = (dig H a).length := ⟨_, rfl⟩
    obtain ⟨lb, hlb⟩ : ∃ n, n = (dig H b).length := ⟨_, rfl⟩
    have Hla := hid hla
    rw [← hla, ← hlb] at hlt
    rw [← hla] at hlen ⊢
    rw [← hlb] at hlen' ⊢
    rw [← hla] at H0
    clear hla hlb e1 e2 hab H1
    go_enter Tryd.func75, Tryd.ntmps75
    go_wp2_with (at_builtin; refine wpList_append_at rfl _ _ 65 rfl elemHalves w.heap.size _ [] rfl (Own.nil ..) _ (dig H a) rfl H0.out (by rw [← Hla.out]; simp [maxLen]; omega) (by rw [← Hla.out]; simp; omega) (Nat.le_refl _) ?_; intro v2 w2 ho2 hb2 hs2)
    go_ret2
    exact ⟨_, _, rfl, by exact At.nil _ _, ho2.at, hb2⟩
  · by_cases hl1 : (dig H b).length = 1
    · have hbH : b < H := by
        have := lt_pow_sz H2 b
        rwa [show sz H b = 1 from hl1, Nat.pow_one] at this
      have hd1 := dig_one H2 hb hbH
      obtain ⟨p1, c1, rfl, b1, b2, b3, b4⟩ := id h1
      obtain ⟨bb, off, rfl, hbb, hcell⟩ := b4 (by omega)
      have hc := hcell 0 (by omega)
      simp only [hd1, List.getElem_cons_zero, Nat.add_zero] at hc
      obtain ⟨p0, c0, rfl, -⟩ := id h0
      obtain ⟨la, hla⟩ : ∃ n, n = (dig H a).length := ⟨_, rfl⟩
      have Hla := hid hla
      rw [← hla] at hlen hlt H0 ⊢
      rw [hl1] at hlt b1 ⊢
      have hsh := fun (W' : World) (v : Value) (hv : Own W' w.heap.size 67 .u32 v (dig H a)) => divideShort_any w.heap.size v (dig H a) b W' hv (small_dig H2 a) hb hbH
      rw [val_dig H2] at hsh
      have Hsh := hid hsh
      unfold maxLen at b2
      clear hla hsh hd1 hcell b4 b3 hl1 h0 h1 H1
      go_enter Tryd.func75, Tryd.ntmps75
      go_wp2_with fail
      go_region_held3 (fun w' => w'.cell? ⟨bb, off, none⟩ = some (.int .u32 (b : Nat)))
        (first | assumption | (simp; assumption) | (exact (hb2.cell (p := ⟨bb, off, none⟩) hbb).trans hc) | (exact hcell3))
        (first
          | (refine step_append_at (by rfl) _ _ 65 (by rfl) elemHalves w.heap.size _ [] (by rfl) (Own.nil ..) _ (dig H a) (by rfl) H0.out.drew (by rw [← Hla.out]; simp [maxLen]; omega) (by rw [← Hla.out]; simp; omega) (Nat.le_refl _) ?_; intro v2 w2 ho2 hb2 hs2)
          | (go_at_call 80; refine (Hsh.out _ _ ho2).mono ?_; rintro e w3 ⟨rfl, ho3, hg3⟩; have hcell3 : w3.cell? ⟨bb, off, none⟩ = some (.int .u32 (b : Nat)) := (World.cell?_of_block (w := w2) (hg3.block bb (Nat.lt_of_lt_of_le hbb hb2.size) (fun e => by have := ho2.row bb e.symm; omega))).trans ((hb2.cell (p := ⟨bb, off, none⟩) hbb).trans hc)))
      have hr : a % b < 4294967296 := Nat.lt_trans (Nat.mod_lt _ hb) hbH
      have er : (a : Int) % (b : Int) = ((a % b : Nat) : Int) := (Int.natCast_emod a b).symm
      rw [er]
      have hq := ho3.at
      have bel3 : Below w.heap.size w w3 := (((Below.refl _ w).drew.trans hb2).grown hg3 hb2.size ho2.row)
      obtain ⟨r, hrd⟩ : ∃ r, r = a % b := ⟨_, rfl⟩
      rw [← hrd] at hr ⊢
      have Hrd := hid hrd
      have hstr : strip [r] = dig H r := by
        have h1 : Small H [r] := small_cons hr (small_nil _)
        have := strip_dig H2 h1
        simpa [val] using this
      have hat := At.one w3 .u32 r 67
      have htr := htrim_val _ _ _ hat
      have hat' := hat.cut (strip [r]).length (strip_length _)
      rw [← strip_is_take, hstr] at hat'
      rw [hstr] at htr
      have Htr := hid htr; have Hat := hid hat'; have Bel := hid bel3; have HQ := hid hq
      clear htr hstr hat hat' hrd er bel3 hq ho3 hg3 ho2 Hsh
      generalize cutTo v2 (sz H (a / b)) = vq at *
      go_wp2_with fail
      refine Htr.out.mono ?_
      rintro e w' ⟨rfl, rfl⟩
      go_wp2_with fail
      go_ret2
      exact ⟨_, _, rfl, HQ.out.alloc _, by rw [← Hrd.out]; exact Hat.out, Below.go (below1 _ _) Bel.out⟩
    · have hl0 : (dig H b).length ≠ 0 := fun e => by
        have := (dig_eq_nil H2).1 (List.eq_nil_of_length_eq_zero e)
        omega
      obtain ⟨m, hm⟩ : ∃ m, (dig H b).length = m + 2 := ⟨(dig H b).length - 2, by omega⟩
      have hd := divideLong_any v0 v1 a b w h0 h1 m hm (by omega) hlen
      have Hd := hid hd
      obtain ⟨p0, c0, rfl, -⟩ := h0
      obtain ⟨p1, c1, rfl, -⟩ := h1
      have hbe : (((dig H b).length : Int) == 1) = false := beq_eq_false_iff_ne.2 (by omega)
      generalize (dig H a).length = la at *
      generalize (dig H b).length = lb at *
      clear hd hm hl0 hl1 H0 H1
      go_enter Tryd.func75, Tryd.ntmps75
      go_wp2_with fail
      refine Hd.out.mono ?_
      rintro e w1 ⟨q, r, rfl, hq, hr, hb1⟩
      go_wp2_with fail
      go_ret2
      exact ⟨_, _, rfl, hq, hr, hb1⟩

set_option maxRecDepth 100000 in
set_option maxHeartbeats 3200000 in
theorem divide_any (v0 v1 : Value) (n m : Nat) (w : World) (h0 : At w .u64 v0 (dig W n)) (h1 : At w .u64 v1 (dig W m)) (hm0 : 0 < m) (hn : sz W n ≤ 1099511627776) (hm : sz W m ≤ 1099511627776) :
    Calls Tryd.prog 50 #[v0, v1] w (RTwo (n / m) (n % m) w) := by
  by_cases hs : n < W ∧ m < W
  · exact divide_small v0 v1 n m w h0 h1 hs.1 hs.2 hm0
  · have s0 : ∀ W', Below w.heap.size w W' → Calls Tryd.prog 61 #[v0] W' (ROwn 67 .u32 (dig H n) W') := fun W' hb => by
      have := split_any v0 (dig W n) W' (h0.below hb) (small_dig W2 n) hn
      rwa [val_dig W2] at this
    have s1 : ∀ W', Below w.heap.size w W' → Calls Tryd.prog 61 #[v1] W' (ROwn 67 .u32 (dig H m) W') := fun W' hb => by
      have := split_any v1 (dig W m) W' (h1.below hb) (small_dig W2 m) hm
      rwa [val_dig W2] at this
    have b0 : sz H n ≤ 2199023255552 := Nat.le_trans (sz_H_W n) (by omega)
    have b1 : sz H m ≤ 2199023255552 := Nat.le_trans (sz_H_W m) (by omega)
    have dh : ∀ W' u u', At W' .u32 u (dig H n) → At W' .u32 u' (dig H m) → Calls Tryd.prog 75 #[u, u'] W' (RQuo (n / m) (n % m) W') := fun W' u u' hu hu' => divideHalves_any u u' n m W' hu hu' hm0 b0 b1
    have hc := compare_any v0 v1 n m w h0 h1
    have hst : strip (dig W n) = dig W n := by rw [strip_dig W2 (small_dig W2 n), val_dig W2]
    have hw0 := fun k => own_any v0 (dig W n) (w.drewN k) (h0.drewN k) (by show sz W n ≤ _; omega)
    rw [hst] at hw0
    have q0 : sz H (n / m) ≤ 4398046511104 := Nat.le_trans (sz_mono H2 (Nat.div_le_self n m)) (by omega)
    have q1 : sz H (n % m) ≤ 4398046511104 := Nat.le_trans (sz_mono H2 (Nat.mod_le n m)) (by omega)
    have S0 := hid s0; have S1 := hid s1; have Dh := hid dh; have Hc := hid hc; have Hw := hid hw0; have Q0 := hid q0; have Q1 := hid q1
    have hguard : ¬ ((dig W n).length ≤ 1 ∧ (dig W m).length ≤ 1) := fun h => hs ⟨
      Nat.lt_of_lt_of_le (lt_pow_sz W2 n) (Nat.le_trans (Nat.pow_le_pow_right (by decide) (show sz W n ≤ 1 from h.1)) (by simp)),
      Nat.lt_of_lt_of_le (lt_pow_sz W2 m) (Nat.le_trans (Nat.pow_le_pow_right (by decide) (show sz W m ≤ 1 from h.2)) (by simp))⟩
    obtain ⟨p0, c0, rfl, -⟩ := h0
    obtain ⟨p1, c1, rfl, -⟩ := h1
    have hg2 : ¬ (dig W n).length ≤ 1 ∨ ((dig W n).length ≤ 1 ∧ ¬ (dig W m).length ≤ 1) := by
      rcases Nat.lt_or_ge 1 (dig W n).length with h | h
      · exact Or.inl (by omega)
      · exact Or.inr ⟨h, fun h' => hguard ⟨h, h'⟩⟩
    obtain ⟨ln, hln⟩ : ∃ k, k = (dig W n).length := ⟨_, rfl⟩
    obtain ⟨lm, hlm⟩ : ∃ k, k = (dig W m).length := ⟨_, rfl⟩
    rw [← hln, ← hlm] at hg2
    rw [← hln] at S0 Hc Hw ⊢
    rw [← hlm] at S1 Hc ⊢
    clear s0 s1 dh hc hw0 q0 q1 hln hlm hguard hst b0 b1 hs
    rcases hg2 with hg | ⟨hg, hg'⟩
    · have hd : decide ((ln : Int) ≤ 1) = false := decide_eq_false (by omega)
      by_cases hnm : n < m
      · have ho : ord (n : Int) m = -1 := ord_lt (by omega)
        rw [ho] at Hc
        have e1 : n / m = 0 := Nat.div_eq_of_lt hnm
        have e2 : n % m = n := Nat.mod_eq_of_lt hnm
        rw [e1, e2]
        clear ho e1 e2 hnm S0 S1 Dh Q0 Q1
        go_enter Tryd.func50, Tryd.ntmps50
        go_wp2_with fail
        refine Hc.out.mono ?_
        rintro e w1 ⟨rfl, k, rfl⟩
        go_wp2_with fail
        refine (Hw.out k).mono ?_
        rintro e w2 ⟨v2, rfl, ho2, hb2⟩
        go_wp2_with fail
        go_ret2
        exact ⟨_, _, rfl, At.nil _ _, ho2.at, (below_drewN (Below.refl _ _) k).trans hb2⟩
      · obtain ⟨o, ho⟩ : ∃ o : Int, o = ord (n : Int) m := ⟨_, rfl⟩
        have ho0 : 0 ≤ o := by
          rw [ho]
          rcases Nat.lt_or_ge m n with h | h
          · rw [ord_gt (by omega)]; decide
          · rw [show n = m by omega, ord_eq]; decide
        have ho1 : ¬ o < 0 := by omega
        rw [← ho] at Hc
        have Q := hid (show (n / m) = n / m from rfl)
        clear ho hnm
        go_enter Tryd.func50, Tryd.ntmps50
        go_wp2_with fail
        refine Hc.out.mono ?_
        rintro e w1 ⟨rfl, k, rfl⟩
        go_wp2_with fail
        refine (S0.out _ (below_drewN (Below.refl _ _) k)).mono ?_
        rintro e w2 ⟨u, rfl, hu, hu1⟩
        have b12 := hid ((below_drewN (Below.refl w.heap.size w) k).trans hu1)
        clear hu1
        go_wp2_with fail
        refine (S1.out _ b12.out).mono ?_
        rintro e w3 ⟨u', rfl, hu', hu2⟩
        have b13 := hid (Below.go hu2 b12.out)
        have au := hu.at.below hu2
        clear hu2
        go_wp2_with fail
        refine (Dh.out _ _ _ au hu'.at).mono ?_
        rintro e w4 ⟨q, r, rfl, hq, hr, hb4⟩
        have b14 := hid (Below.go hb4 b13.out)
        clear hb4 au hu hu'
        go_wp2_with fail
        refine (join_any q (n / m) _ hq Q0.out).mono ?_
        rintro e w5 ⟨q5, rfl, ho5, hb5⟩
        have b15 := hid (Below.go hb5 b14.out)
        have hr5 := hr.below hb5
        clear hb5
        go_wp2_with fail
        refine (join_any r (n % m) _ hr5 Q1.out).mono ?_
        rintro e w6 ⟨r6, rfl, ho6, hb6⟩
        have b16 := hid (Below.go hb6 b15.out)
        have aq := ho5.at.below hb6
        clear hb6
        go_wp2_with fail
        go_ret2
        exact ⟨_, _, rfl, aq, ho6.at, b16.out⟩
    · have hd : decide ((ln : Int) ≤ 1) = true := decide_eq_true (by omega)
      have hd' : decide ((lm : Int) ≤ 1) = false := decide_eq_false (by omega)
      by_cases hnm : n < m
      · have ho : ord (n : Int) m = -1 := ord_lt (by omega)
        rw [ho] at Hc
        have e1 : n / m = 0 := Nat.div_eq_of_lt hnm
        have e2 : n % m = n := Nat.mod_eq_of_lt hnm
        rw [e1, e2]
        clear ho e1 e2 hnm S0 S1 Dh Q0 Q1
        go_enter Tryd.func50, Tryd.ntmps50
        go_wp2_with fail
        refine Hc.out.mono ?_
        rintro e w1 ⟨rfl, k, rfl⟩
        go_wp2_with fail
        refine (Hw.out k).mono ?_
        rintro e w2 ⟨v2, rfl, ho2, hb2⟩
        go_wp2_with fail
        go_ret2
        exact ⟨_, _, rfl, At.nil _ _, ho2.at, (below_drewN (Below.refl _ _) k).trans hb2⟩
      · obtain ⟨o, ho⟩ : ∃ o : Int, o = ord (n : Int) m := ⟨_, rfl⟩
        have ho0 : 0 ≤ o := by
          rw [ho]
          rcases Nat.lt_or_ge m n with h | h
          · rw [ord_gt (by omega)]; decide
          · rw [show n = m by omega, ord_eq]; decide
        have ho1 : ¬ o < 0 := by omega
        rw [← ho] at Hc
        have Q := hid (show (n / m) = n / m from rfl)
        clear ho hnm
        go_enter Tryd.func50, Tryd.ntmps50
        go_wp2_with fail
        refine Hc.out.mono ?_
        rintro e w1 ⟨rfl, k, rfl⟩
        go_wp2_with fail
        refine (S0.out _ (below_drewN (Below.refl _ _) k)).mono ?_
        rintro e w2 ⟨u, rfl, hu, hu1⟩
        have b12 := hid ((below_drewN (Below.refl w.heap.size w) k).trans hu1)
        clear hu1
        go_wp2_with fail
        refine (S1.out _ b12.out).mono ?_
        rintro e w3 ⟨u', rfl, hu', hu2⟩
        have b13 := hid (Below.go hu2 b12.out)
        have au := hu.at.below hu2
        clear hu2
        go_wp2_with fail
        refine (Dh.out _ _ _ au hu'.at).mono ?_
        rintro e w4 ⟨q, r, rfl, hq, hr, hb4⟩
        have b14 := hid (Below.go hb4 b13.out)
        clear hb4 au hu hu'
        go_wp2_with fail
        refine (join_any q (n / m) _ hq Q0.out).mono ?_
        rintro e w5 ⟨q5, rfl, ho5, hb5⟩
        have b15 := hid (Below.go hb5 b14.out)
        have hr5 := hr.below hb5
        clear hb5
        go_wp2_with fail
        refine (join_any r (n % m) _ hr5 Q1.out).mono ?_
        rintro e w6 ⟨r6, rfl, ho6, hb6⟩
        have b16 := hid (Below.go hb6 b15.out)
        have aq := ho5.at.below hb6
        clear hb6
        go_wp2_with fail
        go_ret2
        exact ⟨_, _, rfl, aq, ho6.at, b16.out⟩
end Go.Proofs.YtlicmnlllappnaaDoor
/- whole.Div of any numbers; whole.common and whole.Gcd. -/
namespace Go.Proofs.YtlicmnlllappnaaDoor
open Go.RowKit Big

theorem Div_any (v0 v1 : Value) (a b : Int) (w : World) (h0 : RawAt w v0 a) (h1 : RawAt w v1 b) (hb0 : b ≠ 0) : Calls Tryd.prog 25 #[v0, v1] w (RDiv (a / b) (a % b) 0 w) :=
  Div_of v0 v1 a b w h0 h1 hb0 (fun W' u u' hu hu' => divide_any u u' _ _ W' hu hu' (by omega) h0.sz h1.sz)

theorem gcd_step (a b : Nat) : Nat.gcd b (a % b) = Nat.gcd a b := by rw [Nat.gcd_comm a b, Nat.gcd_rec b a, Nat.gcd_comm]

def RWord (n : Nat) (w : World) (e : Ending) (w' : World) : Prop := e = .returned (.int .u64 (n : Nat)) ∧ ∃ k, w' = w.drewN k

set_option maxRecDepth 100000 in
set_option maxHeartbeats 1600000 in
theorem commonWord_any (a b : Nat) (w : World) (ha : a < W) (hb : b < W) : Calls Tryd.prog 78 #[.int .u64 (a : Nat), .int .u64 (b : Nat)] w (RWord (Nat.gcd a b) w) := by
  unfold W at ha hb
  go_enter Tryd.func78, Tryd.ntmps78
  go_wp2_with fail
  go_loopw [0, 1] (fun x y wr => ∃ (p q : Nat), x = .int .u64 (p : Nat) ∧ y = .int .u64 (q : Nat) ∧ p < 18446744073709551616 ∧ q < 18446744073709551616 ∧ Hid (Nat.gcd p q = Nat.gcd a b) ∧ Hid (∃ k, wr = w.drewN k)) (fun _ y _ => (intOf y).toNat)
  case atStart => exact ⟨a, b, rfl, rfl, ha, hb, rfl, 0, rfl⟩
  case round =>
    obtain ⟨p, q, rfl, rfl, hp, hq, hg, hw⟩ := hrel
    by_cases h0 : q = 0
    · subst h0
      have hres : Hid (p = Nat.gcd a b) := by have := hg.out; rw [Nat.gcd_zero_right] at this; exact this
      clear hg
      go_wp2
      go_ret
      exact ⟨by rw [← hres.out]; rfl, hw.out⟩
    · have hb1 : ((q : Int) == 0) = false := beq_eq_false_iff_ne.2 (by omega)
      have hb2 : ((q : Int) != 0) = true := by simp [bne, hb1]
      have hr : p % q < q := Nat.mod_lt _ (by omega)
      have er : (p : Int) % (q : Int) = ((p % q : Nat) : Int) := (Int.natCast_emod p q).symm
      have hg' := hid ((gcd_step p q).trans hg.out)
      have Er := hid er
      clear er hg h0
      go_wp2_with fail
      go_quiet (fail)
      rw [Er.out]
      generalize p % q = r at *
      go_wp2_with fail
      go_roundw
      case rel => exact ⟨q, r, rfl, rfl, hq, by omega, hg'.out, by obtain ⟨k, hk⟩ := hw.out; rw [hk]; exact ⟨_, drewN_twice ..⟩⟩
      case measure => (simp [intOf] <;> omega)

set_option maxRecDepth 100000 in
set_option maxHeartbeats 3200000 in
theorem common_any (v0 v1 : Value) (n m : Nat) (w : World) (h0 : At w .u64 v0 (dig W n)) (h1 : At w .u64 v1 (dig W m)) (hn : sz W n ≤ 1099511627776) (hm : sz W m ≤ 1099511627776) :
    Calls Tryd.prog 53 #[v0, v1] w (RAt .u64 (dig W (Nat.gcd n m)) w) := by
  by_cases hs : n < W ∧ m < W
  · obtain ⟨wn, wm⟩ := hs
    have g0 := word_any v0 _ w h0
    have g1 := word_any v1 _ w h1
    rw [head_dig wn] at g0
    rw [head_dig wm] at g1
    have gl : Nat.gcd n m < W := by
      rcases Nat.eq_zero_or_pos n with h | h
      · subst h; rw [Nat.gcd_zero_left]; exact wm
      · exact Nat.lt_of_le_of_lt (Nat.gcd_le_left m h) wn
    have G0 := hid g0; have G1 := hid g1
    have hc := hid (commonWord_any n m w wn wm)
    have hO := hid (fun W' => ownWord_any (Nat.gcd n m) W' gl)
    have l0 : (dig W n).length ≤ 1 := sz_word wn
    have l1 : (dig W m).length ≤ 1 := sz_word wm
    obtain ⟨p0, c0, rfl, -⟩ := h0
    obtain ⟨p1, c1, rfl, -⟩ := h1
    generalize (dig W n).length = ln at *
    generalize (dig W m).length = lm at *
    clear g0 g1 hn hm gl wn wm
    go_enter Tryd.func53, Tryd.ntmps53
    go_wp2_with fail
    refine G0.out.mono ?_
    rintro e w' ⟨rfl, rfl⟩
    go_wp2_with fail
    refine G1.out.mono ?_
    rintro e w' ⟨rfl, rfl⟩
    go_wp2_with fail
    refine hc.out.mono ?_
    rintro e w1 ⟨rfl, k, rfl⟩
    go_wp2_with fail
    refine (hO.out _).mono ?_
    rintro e w2 ⟨v2, rfl, ho2, hb2⟩
    go_wp2_with fail
    go_ret
    exact ⟨_, rfl, ho2, (below_drewN (Below.refl _ _) k).trans hb2⟩
  · have s0 := split_any v0 (dig W n) w h0 (small_dig W2 n) hn
    rw [val_dig W2] at s0
    have s1 : ∀ W', Below w.heap.size w W' → Calls Tryd.prog 61 #[v1] W' (ROwn 67 .u32 (dig H m) W') := fun W' hb => by
      have := split_any v1 (dig W m) W' (h1.below hb) (small_dig W2 m) hm
      rwa [val_dig W2] at this
    have b0 : sz H n ≤ 2199023255552 := Nat.le_trans (sz_H_W n) (by omega)
    have b1 : sz H m ≤ 2199023255552 := Nat.le_trans (sz_H_W m) (by omega)
    have S0 := hid s0; have S1 := hid s1
    have hguard : ¬ ((dig W n).length ≤ 1 ∧ (dig W m).length ≤ 1) := fun h => hs ⟨
      Nat.lt_of_lt_of_le (lt_pow_sz W2 n) (Nat.le_trans (Nat.pow_le_pow_right (by decide) (show sz W n ≤ 1 from h.1)) (by simp)),
      Nat.lt_of_lt_of_le (lt_pow_sz W2 m) (Nat.le_trans (Nat.pow_le_pow_right (by decide) (show sz W m ≤ 1 from h.2)) (by simp))⟩
    obtain ⟨p0, c0, rfl, -⟩ := h0
    obtain ⟨p1, c1, rfl, -⟩ := h1
    have hg2 : decide (((dig W n).length : Int) ≤ 1) = false ∨ (decide (((dig W n).length : Int) ≤ 1) = true ∧ decide (((dig W m).length : Int) ≤ 1) = false) := by
      rcases Nat.lt_or_ge 1 (dig W n).length with h | h
      · exact Or.inl (decide_eq_false (by omega))
      · exact Or.inr ⟨decide_eq_true (by omega), decide_eq_false (by have : ¬ (dig W m).length ≤ 1 := fun h' => hguard ⟨h, h'⟩; omega)⟩
    generalize (dig W n).length = ln at *
    generalize (dig W m).length = lm at *
    clear s0 s1 hguard hs hn hm
    rcases hg2 with hg | ⟨hg, hg'⟩
    all_goals
      go_enter Tryd.func53, Tryd.ntmps53
      go_wp2_with fail
      refine S0.out.mono ?_
      rintro e w1 ⟨u, rfl, hu, hu1⟩
      go_wp2_with fail
      refine (S1.out _ hu1).mono ?_
      rintro e w2 ⟨u', rfl, hu', hu2⟩
      have b12 := Below.go hu2 hu1
      have au := hu.at.below hu2
      have au' := hu'.at
      clear hu1 hu2 hu hu' S0 S1
      go_wp2_with fail
      go_loopg [5, 6] m (fun gk x y wr => ∃ (p : Nat), At wr .u32 x (dig H p) ∧ At wr .u32 y (dig H gk) ∧ sz H p ≤ 2199023255552 ∧ sz H gk ≤ 2199023255552 ∧ Hid (Nat.gcd p gk = Nat.gcd n m) ∧ Below w.heap.size w wr)
      case atStart => exact ⟨n, au, au', b0, b1, rfl, b12⟩
      case round =>
        obtain ⟨p, hx, hy, hp, hq, hgcd, hbel⟩ := hrel
        by_cases h0 : gk = 0
        · have hres : Hid (p = Nat.gcd n m) := by have := hgcd.out; rw [h0, Nat.gcd_zero_right] at this; exact this
          have hl : (dig H gk).length = 0 := by rw [h0]; rfl
          have hj := hid (join_any _ p wr hx (by omega))
          obtain ⟨py, cy, rfl, -⟩ := hy
          rw [hl]
          clear hl h0 hgcd hq hx
          go_wp2_with fail
          refine hj.out.mono ?_
          rintro e w5 ⟨v5, rfl, ho5, hb5⟩
          go_wp2_with fail
          go_ret
          exact ⟨_, rfl, by rw [← hres.out]; exact ho5.at, Below.go hb5 hbel⟩
        · have hl : 0 < (dig H gk).length := Nat.pos_of_ne_zero fun e => h0 ((sz_eq_zero H2).1 e)
          have hd := hid (divideHalves_any _ _ p gk wr hx hy (by omega) hp hq)
          have hg' := hid ((gcd_step p gk).trans hgcd.out)
          have hlt : p % gk < gk := Nat.mod_lt _ (by omega)
          have hsz : sz H (p % gk) ≤ 2199023255552 := Nat.le_trans (sz_mono H2 (Nat.le_of_lt hlt)) hq
          have Hy := hid hy
          obtain ⟨py, cy, rfl, -⟩ := hy
          obtain ⟨ly, hly⟩ : ∃ k, k = (dig H gk).length := ⟨_, rfl⟩
          rw [← hly] at hl hd Hy ⊢
          clear hly h0 hgcd hx
          go_wp2_with fail
          refine hd.out.mono ?_
          rintro e w5 ⟨q5, r5, rfl, -, hr5, hb5⟩
          have hy5 := Hy.out.below hb5
          have b5 := Below.go hb5 hbel
          clear hd hb5 Hy
          go_wp2_with fail
          go_roundg (p % gk)
          case measure => exact hlt
          case rel => exact ⟨gk, hy5, hr5, hq, hsz, hg'.out, b5⟩

set_option maxRecDepth 100000 in
set_option maxHeartbeats 1600000 in
theorem Gcd_any (v0 v1 : Value) (a b : Int) (w : World) (h0 : RawAt w v0 a) (h1 : RawAt w v1 b) : Calls Tryd.prog 28 #[v0, v1] w (RInt (Nat.gcd a.natAbs b.natAbs : Nat) w) := by
  have z0 := h0.sz
  have z1 := h1.sz
  obtain ⟨n0, s0, l0, rfl, a0, b0, c0, rfl⟩ := h0
  obtain ⟨n1, s1, l1, rfl, a1, b1, c1, rfl⟩ := h1
  rw [sg_natAbs] at z0 z1 ⊢
  rw [sg_natAbs]
  have t0 : ∀ W : World, At W .u64 s0 l0 → Calls Tryd.prog 38 #[s0] W (fun e w' => e = .returned (cutTo s0 (strip l0).length) ∧ w' = W) := fun W h => trim_val s0 l0 W h
  have t1 : ∀ W : World, At W .u64 s1 l1 → Calls Tryd.prog 38 #[s1] W (fun e w' => e = .returned (cutTo s1 (strip l1).length) ∧ w' = W) := fun W h => trim_val s1 l1 W h
  have T0 := hid t0; have T1 := hid t1; clear t0 t1
  have d0 := hid (strip_dig W2 b0)
  have d1 := hid (strip_dig W2 b1)
  go_enter Tryd.func28, Tryd.ntmps28
  go_wp2_with fail
  generalize hW : World.alloc (World.alloc (World.alloc w _) _) _ = W3
  have bw : Below w.heap.size w W3 := by rw [← hW]; exact ((below1 _ _).alloc (by simp) _).alloc (by simp; omega) _
  have hp : Pair W3 (w.heap.size + 1 + 1) 25 := by rw [← hW]; exact Pair.new2 ..
  obtain ⟨-, c01, -, c11, -⟩ : Two W3 w.heap.size (.bool n0) s0 (.bool n1) s1 := by rw [← hW]; exact (Two.new w _ _ _ _ _).below (below1 _ _)
  have z3 : w.heap.size + 3 ≤ W3.heap.size := by rw [← hW]; simp
  have A0 : ∀ W', Below W3.heap.size W3 W' → At W' .u64 (cutTo s0 (strip l0).length) (dig W (val W l0)) := fun W' h' => by have := ((a0.below bw).below h').strip; rwa [d0.out] at this ⊢
  have A1 : ∀ W', Below W3.heap.size W3 W' → At W' .u64 (cutTo s1 (strip l1).length) (dig W (val W l1)) := fun W' h' => by have := ((a1.below bw).below h').strip; rwa [d1.out] at this ⊢
  have HA0 := hid A0; have HA1 := hid A1; have bw' := hid bw; have a0' := hid (a0.below bw); have a1' := hid (a1.below bw)
  clear hW bw A0 A1 a0 a1
  generalize cutTo s0 (strip l0).length = u0 at *
  generalize cutTo s1 (strip l1).length = u1 at *
  generalize val W l0 = x at *
  generalize val W l1 = y at *
  clear d0 d1 b0 b1 c0 c1
  have hsg : Hid (sg false (Nat.gcd x y) = ((Nat.gcd x y : Nat) : Int)) := by unfold Hid sg; simp
  go_region_held3 (fun w' => w'.cell? ⟨w.heap.size, 1, none⟩ = some s0 ∧ w'.cell? ⟨w.heap.size + 1, 1, none⟩ = some s1 ∧ Pair w' (w.heap.size + 1 + 1) 25)
    (first | (go_split_ands; (try dsimp only); (repeat' apply And.intro) <;> first | assumption | exact Pair.drew ‹_› | exact Pair.below ‹_› hb9 | exact Pair.below ‹_› hb8 | exact Pair.below ‹_› hb7 | exact Pair.below ‹_› hb6 | exact Pair.below ‹_› hb5 | exact Pair.below ‹_› hb4 | exact Pair.below ‹_› hb3 | exact Pair.below ‹_› hb2 | exact Pair.below ‹_› hb1 | exact (hb9.cell (by first | omega | (simp; omega) | (simp; done))).trans ‹_› | exact (hb8.cell (by first | omega | (simp; omega) | (simp; done))).trans ‹_› | exact (hb7.cell (by first | omega | (simp; omega) | (simp; done))).trans ‹_› | exact (hb6.cell (by first | omega | (simp; omega) | (simp; done))).trans ‹_› | exact (hb5.cell (by first | omega | (simp; omega) | (simp; done))).trans ‹_› | exact (hb4.cell (by first | omega | (simp; omega) | (simp; done))).trans ‹_› | exact (hb3.cell (by first | omega | (simp; omega) | (simp; done))).trans ‹_› | exact (hb2.cell (by first | omega | (simp; omega) | (simp; done))).trans ‹_› | exact (hb1.cell (by first | omega | (simp; omega) | (simp; done))).trans ‹_› | exact Pair.set1 (Pair.set0 ‹_› _) _ _ _ | exact (cell_stored _ (by first | (dsimp only; omega) | (simp; done) | (simp; omega)) _ _).trans ‹_› | exact Pair.drew (Pair.below ‹_› (below1 _ _)) | exact Pair.below ‹_› (below1 _ _) | exact Pair.far ‹_› (by omega) hb1 | exact Pair.new .. | exact Pair.new1 .. | exact Pair.new2 .. | (go_keep; done)) | (go_keep; done))
    (first
      | (go_at_call_of 38 (s0); refine (T0.out _ a0'.out.drew).mono ?_; rintro e w' ⟨rfl, rfl⟩)
      | (go_at_call_of 38 (s1); refine (T1.out _ a1'.out.drew).mono ?_; rintro e w' ⟨rfl, rfl⟩)
      | (go_at_call 53; refine (common_any u0 u1 x y _ (HA0.out _ (Below.drew (Below.refl _ _))) (HA1.out _ (Below.drew (Below.refl _ _))) z0 z1).mono ?_; rintro e w1 ⟨v1, rfl, ho1, hb1⟩; have hz1 : w.heap.size + 3 ≤ w1.heap.size := (by have := hb1.size; simp at this; omega))
      | (go_at_call 39; refine (told_any false _ _ _ ho1).mono ?_; rintro e w2 ⟨v2, rfl, hi2, hb2⟩; obtain ⟨p2, n2, c2, rfl, hi2⟩ := hi2.shape; have hpr := Pair.below (by go_split_ands; assumption) hb2; obtain ⟨_, _, q0, q1, q2, q3⟩ := hpr.cells))
  go_wp2
  exact bodyPost_ret (v := .agg #[.bool (decide (sg false (Nat.gcd x y) < 0)), .slice p2 n2 c2]) (by simp [results, Tryd.results28, go_sem, q0, q1]) rfl
    ⟨_, rfl, by rw [← hsg.out]; exact hi2.stored hpr _ _ _ _, Below.stored ((bw'.out.drew.trans (hb1.mono (B' := w.heap.size) (by simp; omega))).trans (hb2.mono (B' := w.heap.size) (by omega))) (by omega) _ _⟩
end Go.Proofs.YtlicmnlllappnaaDoor
/- elenchusref01.Gcd. -/
namespace Go.Proofs.YtlicmnlllappnaaDoor
open Go.RowKit Big

theorem len8 {vs : List Value} (h : vs.length = 8) : ∃ a b c d e f g h, vs = [a, b, c, d, e, f, g, h] := by
  match vs, h with
  | [a, b, c, d, e, f, g, h], _ => exact ⟨a, b, c, d, e, f, g, h, rfl⟩

set_option maxRecDepth 100000 in
set_option maxHeartbeats 6400000 in
theorem RGcd_any (v0 v1 : Value) (a b : Int) (w : World) (h0 : RawAt w v0 a) (h1 : RawAt w v1 b) (ha : sz W a.natAbs ≤ 549755813888) (hbs : sz W b.natAbs ≤ 549755813888) :
    Calls Tryd.prog 29 #[v0, v1] w (RInt (Nat.gcd a.natAbs b.natAbs : Nat) w) := by
  obtain ⟨n0, s0, l0, rfl, a0, b0, c0, rfl⟩ := h0
  obtain ⟨n1, s1, l1, rfl, a1, b1, c1, rfl⟩ := h1
  rw [sg_natAbs] at ha hbs ⊢
  rw [sg_natAbs]
  have g0 : ∀ W', Below w.heap.size w W' → Calls Tryd.prog 24 #[.bool false, s0] W' (RInt (val W l0 : Nat) W') := fun W' hb => by
    have := Whole_any false s0 l0 W' (a0.below hb) b0 (by omega)
    simpa [sg] using this
  have g1 : ∀ W', Below w.heap.size w W' → Calls Tryd.prog 24 #[.bool false, s1] W' (RInt (val W l1 : Nat) W') := fun W' hb => by
    have := Whole_any false s1 l1 W' (a1.below hb) b1 (by omega)
    simpa [sg] using this
  have G0 := hid g0; have G1 := hid g1
  clear g0 g1 a0 a1 b0 b1 c0 c1
  generalize val W l0 = x at *
  generalize val W l1 = y at *
  obtain ⟨G, hG⟩ : ∃ G, G = Nat.gcd x y := ⟨_, rfl⟩
  rw [← hG]
  have HG := hid hG
  clear hG
  go_enter Tryd.func29, Tryd.ntmps29
  go_wp2_with fail
  generalize hW : World.alloc (World.alloc (World.alloc w _) _) _ = W3
  have bw : Below w.heap.size w W3 := by rw [← hW]; exact ((below1 _ _).alloc (by simp) _).alloc (by simp; omega) _
  have hp : Pair W3 (w.heap.size + 1 + 1) 25 := by rw [← hW]; exact Pair.new2 ..
  have tw : Two W3 w.heap.size (.bool n0) s0 (.bool n1) s1 := by rw [← hW]; exact (Two.new w _ _ _ _ _).below (below1 _ _)
  have z3 : w.heap.size + 3 ≤ W3.heap.size := by rw [← hW]; simp
  have bw' := hid bw; have HT := hid tw; have Hp := hid hp
  clear hW bw tw hp
  have HS : Hid (∀ w', Below W3.heap.size W3 w' → w'.cell? ⟨w.heap.size, 1, none⟩ = some s0 ∧ w'.cell? ⟨w.heap.size + 1, 1, none⟩ = some s1) := by
    intro w' hb
    have ht := HT.out.below hb
    exact ⟨ht.c01, ht.c11⟩
  have HBW : Hid (∀ w', Below W3.heap.size W3 w' → Below w.heap.size w w') := fun w' hb => bw'.out.trans (hb.mono (by omega))
  go_upto_region 1 with fail
  go_cut [5, 6] (fun s5 s6 wx => ∃ g5 g6, s5 = .pointer (some ⟨g5, 0, none⟩) ∧ s6 = .pointer (some ⟨g6, 0, none⟩) ∧ g5 ≠ g6 ∧ W3.heap.size ≤ g5 ∧ W3.heap.size ≤ g6 ∧ IntCell wx g5 (x : Nat) ∧ IntCell wx g6 (y : Nat) ∧ Below W3.heap.size W3 wx)
  case first =>
    rename_i Jc Kc hJc hKc
    refine wp_region_facts (w0 := W3) 8 2 [9, 10, 11, 12, 13, 14, 5, 6] [undef, undef, undef, undef, undef, undef, undef, undef]
      (fun i => match i with
        | 0 => eqF (.pointer (some ⟨w.heap.size, 1, none⟩)) | 1 => eqF s0 | 2 => intF (x : Nat) | 3 => eqF (.pointer (some ⟨w.heap.size + 1, 1, none⟩)) | 4 => eqF s1 | 5 => intF (y : Nat)
        | 6 => varF W3.heap.size | _ => varF W3.heap.size) [6, 7] (by kernel_rfl) (by kernel_rfl) (by kernel_rfl) (by kernel_rfl) (by decide) rfl (by kernel_rfl) rfl (by simp) ?he ?_ ?_ ?_
    case he => simp only [putAll, Act.put, List.setIfInBounds_toArray, List.set_cons_zero, List.set_cons_succ]
    · intro i hi v w' h
      simp only [List.mem_cons, List.not_mem_nil, or_false] at hi
      rcases hi with rfl | rfl
      · obtain ⟨g, hg, hp, -⟩ := (show VarAt w' W3.heap.size v from h); exact ⟨g, hg, hp.lt⟩
      · obtain ⟨g, hg, hp, -⟩ := (show VarAt w' W3.heap.size v from h); exact ⟨g, hg, hp.lt⟩
    · intro i o hi ho vs wx hvl hb hdep K hK
      have hvs := len8 hvl
      obtain ⟨s9, s10, s11, s12, s13, s14, s5, s6, rfl⟩ := hvs
      have hk := HS.out wx hb
      clear hvl
      go_split_ands
      rcases i with _ | _ | _ | _ | _ | _ | _ | _ | i
      all_goals (simp only [List.getElem?_toArray, List.getElem?_cons_zero, List.getElem?_cons_succ, Option.some.injEq] at ho)
      all_goals try (subst ho)
      all_goals try simp only [putAll, Act.put, List.setIfInBounds_toArray, List.set_cons_zero, List.set_cons_succ]
      · go_simp
        have hK' := hK.out
        simp only [putAll, Act.put, List.setIfInBounds_toArray, List.set_cons_zero, List.set_cons_succ] at hK'
        exact hK' _ _ rfl (Below.refl _ _) (by simp)
      · have d0 : s9 = _ := hdep ⟨0, .data⟩ (by simp) rfl
        subst d0
        go_simp
        have hK' := hK.out
        simp only [putAll, Act.put, List.setIfInBounds_toArray, List.set_cons_zero, List.set_cons_succ] at hK'
        exact hK' _ _ rfl (Below.refl _ _) (by simp)
      · have d1 : s10 = _ := hdep ⟨1, .data⟩ (by simp) rfl
        subst d1
        go_simp
        refine (G0.out _ (HBW.out _ hb)).mono ?_
        rintro e wy ⟨vy, rfl, iy, hby⟩
        have hsh := iy.shape
        obtain ⟨p5, n5, c5, rfl, iy⟩ := hsh
        go_wp2_with fail
        have hK' := hK.out
        simp only [putAll, Act.put, List.setIfInBounds_toArray, List.set_cons_zero, List.set_cons_succ] at hK'
        exact hK' _ _ ⟨_, _, _, _, rfl, iy⟩ hby (by simp)
      · go_simp
        have hK' := hK.out
        simp only [putAll, Act.put, List.setIfInBounds_toArray, List.set_cons_zero, List.set_cons_succ] at hK'
        exact hK' _ _ rfl (Below.refl _ _) (by simp)
      · have d3 : s12 = _ := hdep ⟨3, .data⟩ (by simp) rfl
        subst d3
        go_simp
        have hK' := hK.out
        simp only [putAll, Act.put, List.setIfInBounds_toArray, List.set_cons_zero, List.set_cons_succ] at hK'
        exact hK' _ _ rfl (Below.refl _ _) (by simp)
      · have d4 : s13 = _ := hdep ⟨4, .data⟩ (by simp) rfl
        subst d4
        go_simp
        refine (G1.out _ (HBW.out _ hb)).mono ?_
        rintro e wy ⟨vy, rfl, iy, hby⟩
        have hsh := iy.shape
        obtain ⟨p5, n5, c5, rfl, iy⟩ := hsh
        go_wp2_with fail
        have hK' := hK.out
        simp only [putAll, Act.put, List.setIfInBounds_toArray, List.set_cons_zero, List.set_cons_succ] at hK'
        exact hK' _ _ ⟨_, _, _, _, rfl, iy⟩ hby (by simp)
      · go_simp
        have hK' := hK.out
        simp only [putAll, Act.put, List.setIfInBounds_toArray, List.set_cons_zero, List.set_cons_succ] at hK'
        exact hK' _ _ ⟨_, rfl, Pair.new .., hb.size⟩ (below1 _ _) (fun _ => rfl)
      · go_simp
        have hK' := hK.out
        simp only [putAll, Act.put, List.setIfInBounds_toArray, List.set_cons_zero, List.set_cons_succ] at hK'
        exact hK' _ _ ⟨_, rfl, Pair.new .., hb.size⟩ (below1 _ _) (fun _ => rfl)
      · omega
    · intro vs wx hvl hb hf hdist
      have hvs := len8 hvl
      obtain ⟨s9, s10, s11, s12, s13, s14, s5, s6, rfl⟩ := hvs
      have f7 : (intF (x : Nat)).P s11 wx := hf 2 (by decide)
      have f12 : (intF (y : Nat)).P s14 wx := hf 5 (by decide)
      have f13 : VarAt wx W3.heap.size s5 := hf 6 (by decide)
      have f14 : VarAt wx W3.heap.size s6 := hf 7 (by decide)
      have hne : s5 ≠ s6 := hdist 6 (by simp) 7 (by simp) (by decide)
      obtain ⟨d7, p7, m7, c7, rfl, i7⟩ := f7
      obtain ⟨d12, p12, m12, c12, rfl, i12⟩ := f12
      obtain ⟨g8, rfl, hp8, hB8⟩ := f13
      obtain ⟨g9, rfl, hp9, hB9⟩ := f14
      have hgne : g8 ≠ g9 := fun e => hne (by rw [e])
      have c8 := hp8.cells
      obtain ⟨_, _, q0, q1, q2, q3⟩ := c8
      clear hf hdist hvl hne
      refine wpAny_one (i := 8) (by kernel_rfl) rfl ?_
      intro K hK
      simp only [putAll, Act.put, List.setIfInBounds_toArray, List.set_cons_zero, List.set_cons_succ]
      go_simp
      have hK' := hK.out
      apply hK'
      clear hK hK'
      have x8 := IntCell.put hp8 i7
      have hp9' := hp9.apart hgne.symm (.bool d7) (.slice p7 m7 c7)
      have i12' := i12.stored hp8 d7 p7 m7 c7
      have hb' := Below.stored hb hB8 (.bool d7) (.slice p7 m7 c7)
      clear q0 q1 q2 q3 hp8 hp9 i7 i12
      generalize ((wx.setCell ⟨g8, 0, none⟩ (.bool d7)).setCell ⟨g8, 1, none⟩ (.slice p7 m7 c7)) = wy at *
      have c9 := hp9'.cells
      obtain ⟨_, _, q0, q1, q2, q3⟩ := c9
      refine wpAny_one (i := 9) (by kernel_rfl) rfl ?_
      intro K hK
      go_simp
      have hK' := hK.out
      apply hK'
      clear hK hK'
      refine wpAny_done (by kernel_rfl) ?_ _
      refine hKc _ _ (Met.intro (hJc _ _ ?_))
      (repeat apply Exists.intro)
      exact ⟨⟨g8, g9, rfl, rfl, hgne, hB8, hB9, x8.apart hp9' hgne .., IntCell.put hp9' i12', Below.stored hb' hB9 ..⟩, rfl⟩
  case rest =>
    obtain ⟨g5, g6, rfl, rfl, hgne, hB5, hB6, C5, C6, hbc⟩ := hcut
    have hgc : Hid (Nat.gcd x y = G) := HG.out.symm
    have HBc := hid hbc
    clear hbc HG HS HBW HT G0 G1
    go_wp2_with fail
    go_loopg [] y (fun gk wr => ∃ p : Nat, IntCell wr g5 (p : Nat) ∧ IntCell wr g6 (gk : Nat) ∧ sz W p ≤ 549755813888 ∧ sz W gk ≤ 549755813888 ∧ Hid (Nat.gcd p gk = G) ∧ Hid (Below W3.heap.size W3 wr))
    case atStart => exact ⟨x, C5, C6, ha, hbs, hgc.out, HBc.out⟩
    case round =>
      obtain ⟨p, D5, D6, hp, hq, hgcd, HBr⟩ := hrel
      have t6 := D6
      obtain ⟨d6, p6, m6, c6, e6, i6⟩ := t6
      have e6' := two_cells e6
      obtain ⟨x60, x61, -, -⟩ := e6'
      by_cases h0 : gk = 0
      · have hsg := RSign_any _ _ wr (i6.raw (by show sz W gk ≤ _; omega))
        rw [h0] at hsg
        have hsg' : Hid (Calls Tryd.prog 20 #[.agg #[.bool d6, .slice p6 m6 c6]] wr (RNum .i64 0 wr)) := hsg
        have hres : Hid (p = G) := by have := hgcd.out; rw [h0, Nat.gcd_zero_right] at this; exact this
        clear hsg e6 i6 h0 hgcd
        go_wp2_with fail
        refine hsg'.out.mono ?_
        rintro e wz ⟨rfl, hbz⟩
        have HBz := hid (Below.go hbz HBr.out)
        have t5 := D5.below hbz
        obtain ⟨d5, p5, m5, c5, e5, i5⟩ := t5
        have e5' := two_cells e5
        obtain ⟨x50, x51, -, -⟩ := e5'
        have P4 := Hp.out.below HBz.out
        have P4' := P4.cells
        obtain ⟨_, _, q0, q1, q2, q3⟩ := P4'
        rw [hres.out] at i5
        have j5 := hid (i5.stored P4 d5 p5 m5 c5)
        have bz := hid (Below.stored (bw'.out.trans (HBz.out.mono (B' := w.heap.size) (by omega))) (g := w.heap.size + 1 + 1) (by omega) (.bool d5) (.slice p5 m5 c5))
        clear hbz x60 x61 e5 i5 P4
        go_wp2_with fail
        exact bodyPost_ret (v := .agg #[.bool d5, .slice p5 m5 c5]) (by simp [results, Tryd.results29, go_sem, q0, q1]) rfl ⟨_, rfl, j5.out, bz.out⟩
      · have hsg := RSign_any _ _ wr (i6.raw (by show sz W gk ≤ _; omega))
        rw [Int.sign_eq_one_of_pos (show (0 : Int) < (gk : Int) by omega)] at hsg
        have Hsg := hid hsg
        have hg' := hid ((gcd_step p gk).trans hgcd.out)
        have hlt : p % gk < gk := Nat.mod_lt _ (by omega)
        have hsz : sz W (p % gk) ≤ 549755813888 := Nat.le_trans (sz_mono W2 (Nat.le_of_lt hlt)) hq
        clear hsg e6 hgcd
        go_wp2_with fail
        refine Hsg.out.mono ?_
        rintro e wa ⟨rfl, hba⟩
        have HBa := hid (Below.go hba HBr.out)
        have A5 := D5.below hba
        have A6 := D6.below hba
        have i6' := i6.below hba
        have t5 := A5
        obtain ⟨d5, p5, m5, c5, e5, i5⟩ := t5
        have e5' := two_cells e5
        obtain ⟨x50, x51, -, -⟩ := e5'
        have c6' := (hba.cell (p := ⟨g6, 0, none⟩) (World.block_lt_of_cell? wr _ x60)).trans x60
        have c6'' := (hba.cell (p := ⟨g6, 1, none⟩) (World.block_lt_of_cell? wr _ x61)).trans x61
        have hdiv := RDiv_any _ _ _ _ wa (i5.raw (by show sz W p ≤ _; omega)) (i6'.raw (by show sz W gk ≤ _; omega)) (show ((gk : Nat) : Int) ≠ 0 by omega) hp hq
        have Hdiv := hid hdiv
        clear hba x60 x61 i6 i6' e5 hdiv D5 D6 Hsg i5
        go_wp2_with fail
        refine Hdiv.out.mono ?_
        rintro e wb ⟨vq, vr, rfl, hqq, hrr, hbb⟩
        have hqq := hqq.shape
        obtain ⟨pq, nq, cq, rfl, -⟩ := hqq
        have hrr := hrr.shape
        obtain ⟨pr, nr, cr, rfl, hrr⟩ := hrr
        have hmod : ((p : Int) % (gk : Int)) = ((p % gk : Nat) : Int) := (Int.natCast_emod p gk).symm
        rw [hmod] at hrr ⊢
        obtain ⟨dr, hdr⟩ : ∃ d, d = decide (((p % gk : Nat) : Int) < 0) := ⟨_, rfl⟩
        rw [← hdr] at hrr ⊢
        obtain ⟨dq, hdq⟩ : ∃ d, d = decide ((p : Int) / (gk : Int) < 0) := ⟨_, rfl⟩
        rw [← hdq]
        have HBb := hid (Below.go hbb HBa.out)
        have B5 := A5.below hbb
        have B6 := A6.below hbb
        clear hbb hdr hdq hmod A5 A6 x50 x51 c6' c6''
        go_upto_region 4 with fail
        generalize hW : World.alloc (World.alloc wb _) _ = wc4
        have X4 : Below wb.heap.size wb wc4 ∧ Two wc4 wb.heap.size (.bool dq) (.slice pq nq cq) (.bool dr) (.slice pr nr cr) := by
          rw [← hW]; exact ⟨((Below.refl _ _).alloc (Nat.le_refl _) _).alloc (by simp) _, Two.new ..⟩
        have HB4 := hid (Below.go X4.1 HBb.out)
        have E5 := B5.below X4.1
        have E6 := B6.below X4.1
        have hr4 := hrr.below X4.1
        have hr40 := X4.2.c10
        have hr41 := X4.2.c11
        have hl5 := B5.pair.lt
        have hl6 := B6.pair.lt
        clear hW X4 hrr B5 B6
        obtain ⟨gr, hgr⟩ : ∃ g, g = wb.heap.size + 1 := ⟨_, rfl⟩
        rw [← hgr] at hr40 hr41 ⊢
        have hgr5 : gr ≠ g5 := by omega
        have hgr6 : gr ≠ g6 := by omega
        clear hgr hl5 hl6
        have t6 := E6
        obtain ⟨d7, p7, m7, c7, e7, i7⟩ := t6
        have e7' := two_cells e7
        obtain ⟨x70, x71, -, -⟩ := e7'
        have P5 := E5.pair
        have P5' := P5.cells
        obtain ⟨_, _, q0, q1, q2, q3⟩ := P5'
        have F5 := IntCell.put P5 i7
        have F6 := E6.apart P5 hgne.symm d7 p7 m7 c7
        have fr := hr4.stored P5 d7 p7 m7 c7
        have fr0 := (cell_stored wc4 (p := ⟨gr, 0, none⟩) hgr5 (.bool d7) (.slice p7 m7 c7)).trans hr40
        have fr1 := (cell_stored wc4 (p := ⟨gr, 1, none⟩) hgr5 (.bool d7) (.slice p7 m7 c7)).trans hr41
        have HB5' := hid (Below.stored HB4.out hB5 (.bool d7) (.slice p7 m7 c7))
        clear e7 i7 hr4 hr40 hr41 E5 E6 P5
        go_upto_region 5 with fail
        generalize ((wc4.setCell ⟨g5, 0, none⟩ (.bool d7)).setCell ⟨g5, 1, none⟩ (.slice p7 m7 c7)) = w5 at *
        clear q0 q1 q2 q3 x70 x71
        have P6 := F6.pair
        have P6' := P6.cells
        obtain ⟨_, _, q0, q1, q2, q3⟩ := P6'
        have K6 := IntCell.put P6 fr
        have K5 := F5.apart P6 hgne dr pr nr cr
        have HB6 := hid (Below.stored HB5'.out hB6 (.bool dr) (.slice pr nr cr))
        clear P6 F5 F6 fr
        go_wp2_with fail
        go_roundg (p % gk)
        case measure => exact hlt
        case rel => exact ⟨gk, K5, K6, hq, hsz, hg'.out, HB6.out⟩
end Go.Proofs.YtlicmnlllappnaaDoor
/- whole.Div by 0. -/
namespace Go.Proofs.YtlicmnlllappnaaDoor
open Go.RowKit Big

set_option maxRecDepth 100000 in
set_option maxHeartbeats 1600000 in
theorem Div_zero (v0 v1 : Value) (a : Int) (w : World) (h0 : RawAt w v0 a) (h1 : RawAt w v1 0) : Calls Tryd.prog 25 #[v0, v1] w (RDiv 0 0 12 w) := by
  obtain ⟨n0, s0, l0, rfl, a0, b0, c0, rfl⟩ := h0
  obtain ⟨n1, s1, l1, rfl, a1, b1, c1, hz⟩ := h1
  have t0 : ∀ W : World, At W .u64 s0 l0 → Calls Tryd.prog 38 #[s0] W (fun e w' => e = .returned (cutTo s0 (strip l0).length) ∧ w' = W) := fun W h => trim_val s0 l0 W h
  have t1 : ∀ W : World, At W .u64 s1 l1 → Calls Tryd.prog 38 #[s1] W (fun e w' => e = .returned (cutTo s1 (strip l1).length) ∧ w' = W) := fun W h => trim_val s1 l1 W h
  have hl : (strip l1).length = 0 := by
    have e := strip_dig W2 b1
    have hv : val W l1 = 0 := by
      have := congrArg Int.natAbs hz
      rw [sg_natAbs] at this
      simpa using this.symm
    rw [e, hv]; rfl
  rw [hl] at t1
  have T0 := hid t0; have T1 := hid t1
  obtain ⟨p1, k1, rfl, -⟩ := id a1
  simp only [cutTo_slice] at T1
  clear t0 t1 hl hz b0 b1 c0 c1
  go_enter Tryd.func25, Tryd.ntmps25
  go_wp2_with fail
  go_quiet ((first
    | (go_at_call_of 38 (s0); exact Calls.quiet_of_same (T0.out _ (by repeat (first | exact a0 | apply At.drewN | apply At.drew | apply At.alloc))))
    | (go_at_call 38; exact Calls.quiet_of_same (T1.out _ (by repeat (first | exact a1 | apply At.drewN | apply At.drew | apply At.alloc))))))
  generalize hW : World.drewN (World.alloc (World.alloc (World.alloc (World.alloc w _) _) _) _) _ = W3
  have bw : Below w.heap.size w W3 := by rw [← hW]; exact below_drewN ((((below1 _ _).alloc (by simp) _).alloc (by simp; omega) _).alloc (by simp; omega) _) _
  have hp : Pair W3 (w.heap.size + 1 + 1) 25 := by rw [← hW]; exact Pair.below (Pair.new2 ..) (below_drewN (below1 _ _) _)
  have hp' : Pair W3 (w.heap.size + 1 + 1 + 1) 25 := by rw [← hW]; exact Pair.new3 ..
  clear hW
  obtain ⟨_, _, q0, q1, q2, q3⟩ := hp.cells
  obtain ⟨_, _, r0, r1, r2, r3⟩ := hp'.cells
  go_wp2
  have hi6 : IntAt W3 (.agg #[.bool false, .slice none 0 0]) 0 := IntAt.zero _
  have hpB' := (hp'.other (g' := w.heap.size + 1 + 1) (by omega) 0 (.bool false)).other (g' := w.heap.size + 1 + 1) (by omega) 1 (.slice none 0 0)
  exact bodyPost_ret (v := .tuple #[.agg #[.bool false, .slice none 0 0], .agg #[.bool false, .slice none 0 0], .int .i64 12])
    (by simp [results, Tryd.results25, go_sem, q0, q1, r0, r1]) rfl
    ⟨_, _, rfl, (hi6.stored hp _ _ _ _).stored hpB' _ _ _ _, (hi6.stored hp _ _ _ _).stored hpB' _ _ _ _, Below.stored (Below.stored bw (by omega) _ _) (by omega) _ _⟩
end Go.Proofs.YtlicmnlllappnaaDoor
/- elenchuslaw01.few of three numbers. -/
namespace Go.Proofs.YtlicmnlllappnaaDoor
open Go.RowKit Big


set_option maxRecDepth 100000 in
set_option maxHeartbeats 800000 in
theorem few3_any (b : Nat) (n0 n1 n2 : Bool) (p0 p1 p2 : Option Addr) (k0 c0 k1 c1 k2 c2 cap : Nat) (w : World)
    (e0 : w.cell? ⟨b, 0, none⟩ = some (.bool n0)) (e1 : w.cell? ⟨b, 1, none⟩ = some (.slice p0 k0 c0)) (e2 : w.cell? ⟨b, 2, none⟩ = some (.bool n1)) (e3 : w.cell? ⟨b, 3, none⟩ = some (.slice p1 k1 c1)) (e4 : w.cell? ⟨b, 4, none⟩ = some (.bool n2)) (e5 : w.cell? ⟨b, 5, none⟩ = some (.slice p2 k2 c2))
    (h0 : k0 ≤ 9223372036854775807) (h1 : k1 ≤ 9223372036854775807) (h2 : k2 ≤ 9223372036854775807) :
    Calls Tryd.prog 10 #[.slice (some ⟨b, 0, none⟩) 3 cap] w (RBool (decide (k0 ≤ 20 ∧ k1 ≤ 20 ∧ k2 ≤ 20)) w) := by
  have hb := World.block_lt_of_cell? w _ e0
  have e2' : ∀ o, (w.alloc o).cell? ⟨b, 2, none⟩ = some (.bool n1) := fun o => ((below1 w o).cell (p := ⟨b, 2, none⟩) hb).trans e2
  have e3' : ∀ o, (w.alloc o).cell? ⟨b, 3, none⟩ = some (.slice p1 k1 c1) := fun o => ((below1 w o).cell (p := ⟨b, 3, none⟩) hb).trans e3
  have e4' : ∀ o o', ((w.alloc o).alloc o').cell? ⟨b, 4, none⟩ = some (.bool n2) := fun o o' => (((below1 w o).alloc (by simp) o').cell (p := ⟨b, 4, none⟩) hb).trans e4
  have e5' : ∀ o o', ((w.alloc o).alloc o').cell? ⟨b, 5, none⟩ = some (.slice p2 k2 c2) := fun o o' => (((below1 w o).alloc (by simp) o').cell (p := ⟨b, 5, none⟩) hb).trans e5
  rcases (by omega : (k0 ≤ 20 ∧ k1 ≤ 20 ∧ k2 ≤ 20) ∨ (k0 ≤ 20 ∧ k1 ≤ 20 ∧ 20 < k2) ∨ (k0 ≤ 20 ∧ 20 < k1) ∨ 20 < k0) with ⟨a0, a1, a2⟩ | ⟨a0, a1, a2⟩ | ⟨a0, a1⟩ | a0
  · obtain ⟨r, hr⟩ : ∃ r, r = decide (k0 ≤ 20 ∧ k1 ≤ 20 ∧ k2 ≤ 20) := ⟨_, rfl⟩
    rw [← hr]
    have hd : Hid (r = true) := by unfold Hid; rw [hr]; simp; omega
    clear hr
    go_enter Tryd.func10, Tryd.ntmps10
    go_wp2_with fail
    refine wp_loop_rounds 4 ?_
    rw [rounds_succ]
    go_wp2
    rw [rounds_succ]
    go_wp2
    rw [rounds_succ]
    go_wp2
    rw [rounds_succ]
    go_wp2
    go_ret
    exact ⟨by rw [hd.out]; rfl, ((below1 _ _).alloc (by simp) _).alloc (by simp; omega) _⟩
  · obtain ⟨r, hr⟩ : ∃ r, r = decide (k0 ≤ 20 ∧ k1 ≤ 20 ∧ k2 ≤ 20) := ⟨_, rfl⟩
    rw [← hr]
    have hd : Hid (r = false) := by unfold Hid; rw [hr]; simp; omega
    clear hr
    go_enter Tryd.func10, Tryd.ntmps10
    go_wp2_with fail
    refine wp_loop_rounds 4 ?_
    rw [rounds_succ]
    go_wp2
    rw [rounds_succ]
    go_wp2
    rw [rounds_succ]
    go_wp2
    go_ret
    exact ⟨by rw [hd.out]; rfl, ((below1 _ _).alloc (by simp) _).alloc (by simp; omega) _⟩
  · obtain ⟨r, hr⟩ : ∃ r, r = decide (k0 ≤ 20 ∧ k1 ≤ 20 ∧ k2 ≤ 20) := ⟨_, rfl⟩
    rw [← hr]
    have hd : Hid (r = false) := by unfold Hid; rw [hr]; simp; omega
    clear hr
    go_enter Tryd.func10, Tryd.ntmps10
    go_wp2_with fail
    refine wp_loop_rounds 4 ?_
    rw [rounds_succ]
    go_wp2
    rw [rounds_succ]
    go_wp2
    go_ret
    exact ⟨by rw [hd.out]; rfl, (below1 _ _).alloc (by simp) _⟩
  · obtain ⟨r, hr⟩ : ∃ r, r = decide (k0 ≤ 20 ∧ k1 ≤ 20 ∧ k2 ≤ 20) := ⟨_, rfl⟩
    rw [← hr]
    have hd : Hid (r = false) := by unfold Hid; rw [hr]; simp; omega
    clear hr
    go_enter Tryd.func10, Tryd.ntmps10
    go_wp2_with fail
    refine wp_loop_rounds 4 ?_
    rw [rounds_succ]
    go_wp2
    go_ret
    exact ⟨by rw [hd.out]; rfl, below1 _ _⟩
end Go.Proofs.YtlicmnlllappnaaDoor
