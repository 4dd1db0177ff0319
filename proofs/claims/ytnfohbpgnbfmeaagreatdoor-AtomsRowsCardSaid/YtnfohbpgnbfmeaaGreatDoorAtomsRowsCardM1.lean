/- Texts put together: SameTold, RefParts, RefDiv, RefGcd. -/
import Derived.Test.YtnfohbpgnbfmeaaGreatDoorAtomsMeansCardM6
import Derived.Deep.DeepCutAuto
/- elenchusref01.SameInt of any two told numbers. -/
namespace Go.Proofs.YtnfohbpgnbfmeaaGreatDoor
open Go.RowKit Big

theorem dig_same10 (a b : Int) (h : decide (a < 0) = decide (b < 0)) : decide (dig W a.natAbs = dig W b.natAbs) = decide (a = b) := by
  rw [decide_eq_decide]
  constructor
  · intro e
    have e2 := congrArg (val W) e
    rw [val_dig W2, val_dig W2] at e2
    rw [decide_eq_decide] at h
    omega
  · rintro rfl; rfl
theorem sign_apart10 (a b : Int) (h : (decide (a < 0) == decide (b < 0)) = false) : decide (a = b) = false := by
  rw [decide_eq_false_iff_not]
  rintro rfl
  simp at h

set_option maxHeartbeats 800000 in
theorem SameInt_told10 (v0 v1 : Value) (a b : Int) (w : World) (h0 : IntAt w v0 a) (h1 : IntAt w v1 b) :
    Calls Tryz.prog 18 #[v0, v1] w (RBool (decide (a = b)) w) := by
  obtain ⟨s0, rfl, a0⟩ := h0
  obtain ⟨s1, rfl, a1⟩ := h1
  obtain ⟨r, hr⟩ : ∃ r, r = decide (a = b) := ⟨_, rfl⟩
  rw [← hr]
  have hd := dig_same10 a b; have hs := sign_apart10 a b
  rw [← hr] at hd hs
  obtain ⟨n0, hn0⟩ : ∃ n, n = decide (a < 0) := ⟨_, rfl⟩
  obtain ⟨n1, hn1⟩ : ∃ n, n = decide (b < 0) := ⟨_, rfl⟩
  rw [← hn0] at hd hs ⊢
  rw [← hn1] at hd hs ⊢
  have Hd := hid hd; have Hs := hid hs
  clear hr hd hs hn0 hn1
  by_cases hn : n0 = n1
  · subst hn
    have g : ∀ o o', Calls Tryz.prog 39 #[s0, s1] ((w.alloc o).alloc o') (RDrawn (.bool r) ((w.alloc o).alloc o')) := fun o o' => by
      have := Same_any s0 s1 _ _ _ ((a0.alloc o).alloc o') ((a1.alloc o).alloc o')
      rwa [Hd.out rfl] at this
    have G := hid g
    clear g a0 a1
    go_enter Tryz.func18, Tryz.ntmps18
    go_wp2_with fail
    refine (G.out _ _).mono ?_
    rintro e w' ⟨rfl, k, rfl⟩
    go_wp2_with fail
    go_ret
    exact ⟨rfl, below_drewN ((below1 _ _).alloc (by simp) _) _⟩
  · have hn' : (n0 == n1) = false := by simpa using hn
    have hr := Hs.out hn'
    subst hr
    clear hn a0 a1 Hs Hd
    go_enter Tryz.func18, Tryz.ntmps18
    go_wp2
    go_ret
    exact ⟨rfl, (below1 _ _).alloc (by simp) _⟩

end Go.Proofs.YtnfohbpgnbfmeaaGreatDoor
/- elenchusref01.parts: quotient and rest, bit by bit. -/
namespace Go.Proofs.YtnfohbpgnbfmeaaGreatDoor
open Go.RowKit Big

/-- one bit more -/
theorem bit_step {pre b t r q h bit : Nat} (hb : 0 < b) (hr : r = pre % b) (hq : q * h + t = pre / b) (hbit : bit ≤ 1) :
    (2 * r + bit < b → 2 * r + bit = (2 * pre + bit) % b ∧ q * (2 * h) + 2 * t = (2 * pre + bit) / b) ∧
    (b ≤ 2 * r + bit → 2 * r + bit - b = (2 * pre + bit) % b ∧ q * (2 * h) + (2 * t + 1) = (2 * pre + bit) / b) := by
  have e := Nat.div_add_mod pre b
  rw [← hr, ← hq] at e
  have hrb : r < b := by rw [hr]; exact Nat.mod_lt _ hb
  have e2 : q * (2 * h) = 2 * (q * h) := Nat.mul_left_comm ..
  have e3 : b * (2 * (q * h + t)) = 2 * (b * (q * h + t)) := Nat.mul_left_comm ..
  refine ⟨fun hlt => ?_, fun hge => ?_⟩
  · have e4 : 2 * pre + bit = b * (2 * (q * h + t)) + (2 * r + bit) := by omega
    rw [e4, Nat.mul_add_mod, Nat.mod_eq_of_lt hlt, Nat.mul_add_div hb, Nat.div_eq_of_lt hlt, e2]
    exact ⟨rfl, by omega⟩
  · have e4 : 2 * pre + bit = b * (2 * (q * h + t) + 1) + (2 * r + bit - b) := by rw [Nat.mul_add]; omega
    have hlt : 2 * r + bit - b < b := by omega
    rw [e4, Nat.mul_add_mod, Nat.mod_eq_of_lt hlt, Nat.mul_add_div hb, Nat.div_eq_of_lt hlt, e2]
    exact ⟨rfl, by omega⟩
theorem bit_pre (P x k : Nat) (hk : k ≤ 15) : 2 * (P * 2 ^ (16 - (k + 1)) + x / 2 ^ (k + 1)) + x / 2 ^ k % 2 = P * 2 ^ (16 - k) + x / 2 ^ k := by
  have e : x / 2 ^ (k + 1) = x / 2 ^ k / 2 := by rw [Nat.pow_succ, Nat.div_div_eq_div_mul]
  have e2 : 2 ^ (16 - k) = 2 * 2 ^ (16 - (k + 1)) := by
    rw [show 16 - k = (16 - (k + 1)) + 1 by omega, Nat.pow_succ, Nat.mul_comm]
  rw [e, e2, Nat.mul_left_comm]
  omega
theorem digit_lt {q t P b h x k : Nat} (hb : 0 < b) (hq : q = P / b) (h1 : q * h + t = (P * h + x / 2 ^ k) / b) (hx : x / 2 ^ k < h) : t < h := by
  have e : P < (q + 1) * b := by rw [hq, Nat.mul_comm]; exact Nat.lt_mul_div_succ P hb
  have e1 : P * h + x / 2 ^ k < (q + 1) * h * b := by
    have : (P + 1) * h ≤ (q + 1) * b * h := Nat.mul_le_mul_right _ e
    rw [Nat.add_mul] at this
    have e2 : (q + 1) * b * h = (q + 1) * h * b := Nat.mul_right_comm ..
    omega
  have e3 : (P * h + x / 2 ^ k) / b < (q + 1) * h := by rw [Nat.div_lt_iff_lt_mul hb]; exact e1
  rw [← h1, Nat.add_mul] at e3
  omega
theorem bits_left (x k : Nat) (hx : x < 65536) (hk : k ≤ 16) : x / 2 ^ k < 2 ^ (16 - k) := by
  rw [Nat.div_lt_iff_lt_mul (Nat.two_pow_pos k), ← Nat.pow_add, show 16 - k + k = 16 by omega]; exact hx

def RParts (q r : Nat) (w : World) (e : Ending) (w' : World) : Prop := ∃ v v', e = .returned (.tuple #[v, v']) ∧ At w' .i64 v (dig D q) ∧ At w' .i64 v' (dig D r) ∧ Below w.heap.size w w'

theorem wrap64_bit (z p : Nat) (hz : z ≤ 65536) (hp : p ≤ 65536) : wrap64 ((z : Int) + wrap64 ((p : Nat) : Int)) = ((z + p : Nat) : Int) := by
  have e : wrap64 ((p : Nat) : Int) = (p : Int) := by unfold wrap64; omega
  rw [e]
  unfold wrap64; omega
set_option maxRecDepth 100000 in
set_option maxHeartbeats 6400000 in
theorem rparts_any (v0 v1 : Value) (l0 : List Nat) (m : Nat) (w : World) (h0 : At w .i64 v0 l0) (h1 : At w .i64 v1 (dig D m)) (s0 : Small D l0) (hm : 0 < m)
    (hl0 : l0.length ≤ 4398046511104) (hl1 : sz D m ≤ 2199023255552) : Calls Tryz.prog 66 #[v0, v1] w (RParts (val D l0 / m) (val D l0 % m) w) := by
  have hadd : ∀ (r : Nat) (W : World) (u : Value), At W .i64 u (dig D r) → r < m → Calls Tryz.prog 62 #[u, u] W (RAt .i64 (dig D (r + r)) W) := fun r W u hu hr => by
    have hz : sz D r ≤ 2199023255552 := Nat.le_trans (sz_mono D2 (Nat.le_of_lt hr)) hl1
    have := rplus_any u u (dig D r) (dig D r) W hu hu (small_dig D2 r) (small_dig D2 r) (by show sz D r ≤ _; omega) (by show sz D r ≤ _; omega)
    rwa [val_dig D2] at this
  have hadd2 : ∀ (r b : Nat) (W : World) (u u' : Value), At W .i64 u (dig D (r + r)) → At W .i64 u' (dig D b) → r < m → b ≤ 1 → Calls Tryz.prog 62 #[u, u'] W (RAt .i64 (dig D (r + r + b)) W) := fun r b W u u' hu hu' hr hb => by
    have hz : sz D r ≤ 2199023255552 := Nat.le_trans (sz_mono D2 (Nat.le_of_lt hr)) hl1
    have hz2 : sz D (r + r) ≤ 2199023255552 + 1 := sz_add D2 hz hz
    have hz3 : sz D b ≤ 1 := sz_le_of_lt D2 (by unfold D; omega)
    have := rplus_any u u' (dig D (r + r)) (dig D b) W hu hu' (small_dig D2 _) (small_dig D2 _) (by show sz D (r + r) ≤ _; omega) (by show sz D b ≤ _; omega)
    rwa [val_dig D2, val_dig D2] at this
  have hcmp : ∀ (r : Nat) (W : World) (u : Value), At W .i64 u (dig D r) → Below w.heap.size w W → Calls Tryz.prog 80 #[u, v1] W (ROrd (ord r m) W) := fun r W u hu hb => rcompare_any u v1 r m W hu (h1.below hb)
  have hless : ∀ (r : Nat) (W : World) (u : Value), At W .i64 u (dig D r) → Below w.heap.size w W → m ≤ r → r < m + m → Calls Tryz.prog 64 #[u, v1] W (ROwn 3 .i64 (dig D (r - m)) W) := fun r W u hu hb hmr hr => by
    have hz : sz D r ≤ 2199023255552 + 1 := Nat.le_trans (sz_mono D2 (Nat.le_of_lt hr)) (sz_add D2 hl1 hl1)
    have := rless_own u v1 (dig D r) (dig D m) W hu (h1.below hb) (small_dig D2 r) (small_dig D2 m) (by show sz D r ≤ _; omega) (sz_mono D2 hmr) (by rw [val_dig D2, val_dig D2]; exact hmr)
    rwa [val_dig D2, val_dig D2] at this
  have Hadd := hid hadd; have Hadd2 := hid hadd2; have Hcmp := hid hcmp; have Hless := hid hless
  clear hadd hadd2 hcmp hless
  obtain ⟨p0, c0, rfl, a1, a2, a3, a4⟩ := h0
  unfold maxLen at a2
  clear h1 hl1
  go_enter Tryz.func66, Tryz.ntmps66
  go_wp2_with (first
    | (at_make; refine wpList_full_at rfl _ _ 99 rfl elemInts w.heap.size _ _ _ _ l0.length rfl rfl (by first | rfl | omega | (simp; done)) (by first | rfl | omega | (simp; done)) (by omega) (by simp [maxLen]; omega) (Nat.le_refl _) ?_; intro vo w1 ho hb1 hs1 hvo; subst hvo))
  have hstart : Hid (val D ((List.replicate l0.length 0).drop l0.length) = val D (l0.drop l0.length) / m) := by unfold Hid; simp [val]
  have hstart2 : Hid (val D (l0.drop l0.length) % m = 0) := by unfold Hid; simp [val]
  go_loopw [7, 8] (fun rest i wr => ∃ (k : Nat) (Z : List Nat), k ≤ l0.length ∧ i = .int .i64 ((k : Int) - 1) ∧ At wr .i64 rest (dig D (val D (l0.drop k) % m)) ∧ Own wr w.heap.size 3 .i64 (.slice (some ⟨w.heap.size, 0, none⟩) l0.length l0.length) Z ∧ Hid (Z.length = l0.length) ∧ Small D Z ∧
      Hid (val D (Z.drop k) = val D (l0.drop k) / m) ∧ Hid (∀ j, j < k → Z[j]?.getD 0 = 0) ∧ Below w.heap.size w wr ∧ w.heap.size ≤ wr.heap.size) (fun _ i _ => (intOf i + 1).toNat)
  case atStart => exact ⟨l0.length, List.replicate l0.length 0, Nat.le_refl _, rfl, by rw [hstart2.out]; exact At.nil _ _, ho, by simp [Hid], small_zeros (by decide) _, hstart.out, by intro j _; simp [List.getElem?_replicate]; split <;> rfl, hb1, hs1⟩
  case round =>
    obtain ⟨k, Z, hk, rfl, hrest, hown, hZ, hsZ, hv, hz, hbel, hsz⟩ := hrel
    by_cases hk0 : 0 < k
    · obtain ⟨k, rfl⟩ : ∃ k', k = k' + 1 := ⟨k - 1, by omega⟩
      obtain ⟨b, off, rfl, hbb, hcell⟩ := a4 (by omega)
      have x0 := small_get s0 k (by omega)
      obtain ⟨x, hx⟩ : ∃ x, x = l0[k]'(by omega) := ⟨_, rfl⟩
      have hcx := hcell k (by omega)
      rw [← hx] at x0 hcx
      have hdrop := val_drop_succ D l0 k (by omega)
      rw [← hx] at hdrop
      have Hdrop := hid hdrop; have Hcx := hid hcx; clear hx hcell a4 hcx hdrop
      unfold D at x0
      obtain ⟨P, hP⟩ : ∃ P, P = val D (l0.drop (k + 1)) := ⟨_, rfl⟩
      rw [← hP] at Hdrop hrest hv
      clear hP
      obtain ⟨q, hq⟩ : ∃ q, q = val D (Z.drop (k + 1)) := ⟨_, rfl⟩
      have Hq := hid hq
      rw [← hq] at hv
      clear hq
      have hkZ : k < Z.length := by rw [hZ.out]; omega
      have zk : Z[k] = 0 := by have := hz.out k (by omega); simpa [hkZ] using this
      have hset0 : Z.set k (2 ^ 16 * 0) = Z := by rw [Nat.mul_zero]; rw [← zk]; exact List.set_getElem_self ..
      have hpre : P * 2 ^ (16 - 16) + x / 2 ^ 16 = P := by rw [show 2 ^ 16 = 65536 from rfl, Nat.div_eq_of_lt x0]; simp
      have hst1 : Hid (q * 2 ^ (16 - 16) + 0 = (P * 2 ^ (16 - 16) + x / 2 ^ 16) / m) := by unfold Hid; rw [hpre, ← hv.out]; simp
      have HZk := hid hkZ
      have Hset0 := hid hset0; have Hpre := hid hpre
      clear zk hkZ hset0 hpre
      go_wp2_with fail
      rw [show (((k + 1 : Nat) : Int) - 1) = (k : Int) by omega]
      go_loopw [7, 9] (fun rest j wq => ∃ (kk t : Nat), kk ≤ 16 ∧ j = .int .i64 ((kk : Int) - 1) ∧ At wq .i64 rest (dig D ((P * 2 ^ (16 - kk) + x / 2 ^ kk) % m)) ∧ Own wq w.heap.size 3 .i64 (.slice (some ⟨w.heap.size, 0, none⟩) l0.length l0.length) (Z.set k (2 ^ kk * t)) ∧
        Hid (q * 2 ^ (16 - kk) + t = (P * 2 ^ (16 - kk) + x / 2 ^ kk) / m) ∧ Below w.heap.size w wq ∧ w.heap.size ≤ wq.heap.size) (fun _ j _ => (intOf j + 1).toNat)
      case atStart => exact ⟨16, 0, by omega, rfl, by rw [Hpre.out]; exact hrest, by rw [Hset0.out]; exact hown, hst1, hbel, hsz⟩
      case round =>
        obtain ⟨kk, t, hkk, rfl, hrest', hown', ht, hbel', hsz'⟩ := hrel
        by_cases hk1 : 0 < kk
        · obtain ⟨kk, rfl⟩ : ∃ k', kk = k' + 1 := ⟨kk - 1, by omega⟩
          have e0 : wr.cell? ⟨b, off + k, none⟩ = some (.int .i64 (x : Nat)) := (hbel'.cell (p := ⟨b, off + k, none⟩) hbb).trans Hcx.out
          obtain ⟨r, hr⟩ : ∃ r, r = (P * 2 ^ (16 - (kk + 1)) + x / 2 ^ (kk + 1)) % m := ⟨_, rfl⟩
          have hrm : r < m := by rw [hr]; exact Nat.mod_lt _ hm
          rw [← hr] at hrest'
          have Hr := hid hr
          clear hr
          go_wp2_with fail
          refine (Hadd.out r _ _ hrest' hrm).mono ?_
          rintro e w2 ⟨u2, rfl, hu2, hb2⟩
          have e2 : w2.cell? ⟨b, off + k, none⟩ = some (.int .i64 (x : Nat)) := (hb2.cell (p := ⟨b, off + k, none⟩) (Nat.lt_of_lt_of_le hbb hbel'.size)).trans e0
          have own2 := hown'.kept hb2
          have bel2 := Below.go hb2 hbel'
          clear e0 hb2 hown' hbel' hrest'
          obtain ⟨bit, hbit⟩ : ∃ b, b = x / 2 ^ kk % 2 := ⟨_, rfl⟩
          have hb1' : bit ≤ 1 := by omega
          have hbi : ((x : Int) / 2 ^ kk).tmod 2 = (bit : Int) := by
            have e : ((x : Int) / 2 ^ kk) = ((x / 2 ^ kk : Nat) : Int) := by simp
            rw [e, hbit]; rfl
          have Hbit := hid hbit; have Hbi := hid hbi
          clear hbit hbi
          go_wp2_with fail
          rw [Hbi.out]
          have hone := At.one w2 .i64 bit 3
          have hstr : strip [bit] = dig D bit := by
            have := strip_dig D2 (small_cons (show bit < D by unfold D; omega) (small_nil D))
            simpa [val] using this
          have htr := rtrim_any _ [bit] _ hone
          rw [hstr] at htr
          have Htr := hid htr
          clear hone hstr htr
          have b3 := below1 w2 (.cells #[.int .i64 (bit : Nat)] 3)
          have hu3 := hu2.below b3
          have e3 := (b3.cell (p := ⟨b, off + k, none⟩) (Nat.lt_of_lt_of_le hbb bel2.size)).trans e2
          have own3 := own2.kept b3
          have bel3 := Below.go b3 bel2
          clear b3 hu2 e2 own2 bel2
          generalize World.alloc w2 _ = w3 at *
          refine Htr.out.mono ?_
          rintro e w3' ⟨u4, rfl, hu4, rfl⟩
          go_wp2_with fail
          refine (Hadd2.out r bit _ _ _ hu3 hu4 hrm hb1').mono ?_
          rintro e w5 ⟨u5, rfl, hu5, hb5⟩
          have e5 := (hb5.cell (p := ⟨b, off + k, none⟩) (Nat.lt_of_lt_of_le hbb bel3.size)).trans e3
          have own5 := own3.kept hb5
          have bel5 := Below.go hb5 bel3
          clear hb5 own3 bel3 e3 hu3 hu4 Htr
          go_wp2_with fail
          have hc := Hcmp.out _ _ _ hu5 bel5
          have hbs := bit_step (pre := P * 2 ^ (16 - (kk + 1)) + x / 2 ^ (kk + 1)) (h := 2 ^ (16 - (kk + 1))) (q := q) (t := t) (bit := bit) hm Hr.out ht.out hb1'
          have h2h : 2 * 2 ^ (16 - (kk + 1)) = 2 ^ (16 - kk) := by
            rw [show 16 - kk = (16 - (kk + 1)) + 1 by omega, Nat.pow_succ, Nat.mul_comm]
          have hpre' := bit_pre P x kk (by omega)
          rw [← Hbit.out] at hpre'
          rw [hpre', h2h, show 2 * r + bit = r + r + bit by omega] at hbs
          have htl : t < 2 ^ (16 - (kk + 1)) := digit_lt hm hv.out ht.out (bits_left x (kk + 1) x0 (by omega))
          have hp2 : 2 ^ (kk + 1) * 2 ^ (16 - (kk + 1)) = 65536 := by rw [← Nat.pow_add, show kk + 1 + (16 - (kk + 1)) = 16 by omega]
          have hval : 2 ^ (kk + 1) * t + 2 ^ (kk + 1) ≤ 65536 := by
            have := Nat.mul_le_mul_left (2 ^ (kk + 1)) (show t + 1 ≤ 2 ^ (16 - (kk + 1)) from htl)
            rw [hp2, Nat.mul_add] at this; omega
          have hpw : 2 ^ (kk + 1) = 2 * 2 ^ kk := by rw [Nat.pow_succ, Nat.mul_comm]
          have hpp : 0 < 2 ^ kk := Nat.two_pow_pos kk
          have hst0 : 2 ^ (kk + 1) * t = 2 ^ kk * (2 * t) := by rw [Nat.pow_succ, Nat.mul_assoc]
          by_cases hlt : r + r + bit < m
          · rw [ord_lt (by omega)] at hc
            obtain ⟨g1, g2⟩ := hbs.1 hlt
            have Hc := hid hc; have G1 := hid g1; have G2 := hid g2; have Hst0 := hid hst0
            clear hc g1 g2 hbs h2h hpre' htl hp2 hval hpw hst0 hpp hlt
            go_wp2_with fail
            refine Hc.out.mono ?_
            rintro e w6 ⟨rfl, nn, rfl⟩
            go_wp2_with fail
            go_roundw
            case rel => exact ⟨kk, 2 * t, by omega, by go_num, by rw [← G1.out]; exact hu5.drewN nn, by rw [← Hst0.out]; exact own5.kept (below_drewN (Below.refl _ _) nn), G2.out, below_drewN bel5 nn, bel5.size⟩
            case measure => (simp [intOf] <;> omega)
          · obtain ⟨o, ho⟩ : ∃ o : Int, o = ord ((r + r + bit : Nat) : Int) m := ⟨_, rfl⟩
            have ho0 : 0 ≤ o := by
              rw [ho]
              rcases Nat.lt_or_ge m (r + r + bit) with h | h
              · rw [ord_gt (by omega)]; decide
              · rw [show r + r + bit = m by omega, ord_eq]; decide
            rw [← ho] at hc
            obtain ⟨g1, g2⟩ := hbs.2 (by omega)
            have hls := fun (W' : World) (hh : At W' .i64 u5 (dig D (r + r + bit))) (hb : Below w.heap.size w W') => Hless.out _ W' u5 hh hb (by omega) (by omega)
            have Hc := hid hc; have G1 := hid g1; have G2 := hid g2; have Hls := hid hls
            have hval' : 2 ^ (kk + 1) * t + 2 ^ kk = 2 ^ kk * (2 * t + 1) := by rw [hst0, Nat.mul_add, Nat.mul_one]
            have hv1 : 2 ^ (kk + 1) * t ≤ 65536 := by omega
            have hv2 : 2 ^ kk ≤ 65536 := by omega
            obtain ⟨z0, hz0⟩ : ∃ z, z = 2 ^ (kk + 1) * t := ⟨_, rfl⟩
            rw [← hz0] at own5 hval' hv1
            obtain ⟨pk, hpk⟩ : ∃ z, z = 2 ^ kk := ⟨_, rfl⟩
            have hv2' := hv2
            rw [← hpk] at hval' hv2'
            have Hval := hid hval'; have Hpk := hid hpk
            clear hc g1 g2 hbs h2h hpre' htl hp2 hval hpw hst0 hpp hls ho hz0 hval' hpk
            go_wp2_with fail
            refine Hc.out.mono ?_
            rintro e w6 ⟨rfl, nn, rfl⟩
            go_wp2_with fail
            refine (Hls.out _ (hu5.drewN nn) (below_drewN bel5 nn)).mono ?_
            rintro e w7 ⟨u7, rfl, hu7, hb7⟩
            have own7 := (own5.kept (below_drewN (Below.refl _ _) nn)).kept hb7
            have bel7 := Below.go hb7 (below_drewN bel5 nn)
            have hkl : k < (Z.set k z0).length := by rw [List.length_set]; exact HZk.out
            have hq5 := (own5.cell k hkl).1
            obtain ⟨cc0, f0⟩ := own7.cell k hkl
            rw [List.getElem_set_self] at cc0
            have HK := hid hkl
            clear hb7 own5 bel5 e5 hu5
            go_wp2_with fail
            have hpi : ((2 : Int) ^ kk) = ((pk : Nat) : Int) := by rw [Hpk.out]; simp
            rw [hpi, wrap64_bit z0 pk hv1 hv2']
            have hset := own7.set k (z0 + pk)
            rw [List.set_set, Hval.out, Hpk.out] at hset
            have hu8 := (hu7.other hset.2 (by intro g hg; have := hu7.row g hg; have := World.block_lt_of_cell? w5 _ hq5; simp at *; omega)).at
            rw [G1.out] at hu8
            have hvv : z0 + pk = 2 ^ kk * (2 * t + 1) := by rw [Hval.out, Hpk.out]
            rw [hvv]
            go_roundw
            case rel => exact ⟨kk, 2 * t + 1, by omega, by go_num, hu8, hset.1, G2.out, bel7.setCell (p := ⟨w.heap.size, k, none⟩) (Nat.le_refl _) _, by have := bel7.size; simpa [World.setCell] using this⟩
            case measure => (simp [intOf] <;> omega)
        · obtain rfl : kk = 0 := by omega
          have htl : t < 65536 := digit_lt (k := 0) hm hv.out ht.out (by simpa using x0)
          have hkl := HZk.out
          have hdrop := Hdrop.out
          have hv' : Hid (val D ((Z.set k t).drop k) = val D (l0.drop k) / m) := by
            unfold Hid
            rw [val_drop_succ D _ k (by rw [List.length_set]; exact hkl), List.getElem_set_self, List.drop_set_of_lt (by omega), ← Hq.out, hdrop]
            have := ht.out
            simp only [Nat.sub_zero, Nat.pow_zero, Nat.div_one] at this
            rw [show x + D * P = P * 2 ^ 16 + x by rw [Nat.mul_comm D P, Nat.add_comm]; rfl, ← this, Nat.mul_comm D q, Nat.add_comm]; rfl
          have hr' : (P * 2 ^ (16 - 0) + x / 2 ^ 0) % m = val D (l0.drop k) % m := by
            rw [hdrop]
            simp only [Nat.sub_zero, Nat.pow_zero, Nat.div_one]
            rw [Nat.mul_comm D P, Nat.add_comm]; rfl
          rw [hr'] at hrest'
          rw [Nat.pow_zero, Nat.one_mul] at hown'
          have hz' : Hid (∀ j, j < k → (Z.set k t)[j]?.getD 0 = 0) := fun j hj => by rw [List.getElem?_set_ne (by omega)]; exact hz.out j (by omega)
          have HZ' : Hid ((Z.set k t).length = l0.length) := by unfold Hid; rw [List.length_set]; exact hZ.out
          have sZ' := small_set hsZ k (show t < D from htl)
          clear hr' hkl hdrop ht htl hv hz
          go_wp2_with fail
          go_roundw
          case rel => exact ⟨k, Z.set k t, by omega, by go_num, hrest', hown', HZ', sZ', hv'.out, hz'.out, hbel', hsz'⟩
          case measure => (simp [intOf] <;> omega)
    · obtain rfl : k = 0 := by omega
      have hv' : Hid (strip Z = dig D (val D l0 / m)) := by
        have := hv.out
        simp only [List.drop_zero] at this
        unfold Hid
        rw [← this, strip_dig D2 hsZ]
      simp only [List.drop_zero] at hrest
      have htr := rtrim_any _ Z _ hown.at
      rw [hv'.out] at htr
      have Htr := hid htr
      clear a4 htr
      go_wp2_with fail
      refine Htr.out.mono ?_
      rintro e w' ⟨v', rfl, hv'', rfl⟩
      go_wp2_with fail
      go_ret2
      exact ⟨_, _, rfl, hv'', hrest, hbel⟩
end Go.Proofs.YtnfohbpgnbfmeaaGreatDoor
/- elenchusref01.Div. -/
namespace Go.Proofs.YtnfohbpgnbfmeaaGreatDoor
open Go.RowKit Big

def eqF (v0 : Value) : SFact := ⟨fun v _ => v = v0, fun _ _ _ h _ => h⟩
def atF (l : List Nat) : SFact := ⟨fun v w => At w .u64 v l, fun _ _ _ h hb => h.below hb⟩
def intF (z : Int) : SFact := ⟨fun v w => ∃ d p n c, v = .agg #[.bool d, .slice p n c] ∧ IntAt w v z, fun _ _ _ ⟨d, p, n, c, h1, h2⟩ hb => ⟨d, p, n, c, h1, h2.below hb⟩⟩
def varF (B : Nat) : SFact := ⟨fun v w => VarAt w B v, fun _ _ _ h hb => h.below hb⟩
theorem len15 {vs : List Value} (h : vs.length = 15) : ∃ a b c d e f g h i j k l m n o, vs = [a, b, c, d, e, f, g, h, i, j, k, l, m, n, o] := by
  match vs, h with
  | [a, b, c, d, e, f, g, h, i, j, k, l, m, n, o], _ => exact ⟨a, b, c, d, e, f, g, h, i, j, k, l, m, n, o, rfl⟩
theorem len5 {vs : List Value} (h : vs.length = 5) : ∃ a b c d e, vs = [a, b, c, d, e] := by
  match vs, h with
  | [a, b, c, d, e], _ => exact ⟨a, b, c, d, e, rfl⟩
theorem len3 {vs : List Value} (h : vs.length = 3) : ∃ a b c, vs = [a, b, c] := by
  match vs, h with
  | [a, b, c], _ => exact ⟨a, b, c, rfl⟩
/-- block g is a variable that holds this whole number -/
def IntCell (w : World) (g : Nat) (z : Int) : Prop := ∃ d p n c, w.heap[g]? = some (.cells #[.bool d, .slice p n c] 35 (0, 0)) ∧ IntAt w (.agg #[.bool d, .slice p n c]) z
theorem IntCell.pair {w : World} {g : Nat} {z : Int} (h : IntCell w g z) : Pair w g 35 := by
  obtain ⟨d, p, n, c, h, -⟩ := h
  exact ⟨d, p, n, c, h⟩
theorem IntCell.below {w w' : World} {g : Nat} {z : Int} (h : IntCell w g z) (hb : Below w.heap.size w w') : IntCell w' g z := by
  obtain ⟨d, p, n, c, h, hi⟩ := h
  exact ⟨d, p, n, c, (hb.block g (Array.getElem?_eq_some_iff.1 h).1).trans h, hi.below hb⟩
theorem IntCell.put {w : World} {g : Nat} {z : Int} {d : Bool} {p : Option Addr} {n c : Nat} (hp : Pair w g 35) (hi : IntAt w (.agg #[.bool d, .slice p n c]) z) :
    IntCell ((w.setCell ⟨g, 0, none⟩ (.bool d)).setCell ⟨g, 1, none⟩ (.slice p n c)) g z := ⟨d, p, n, c, hp.put .., hi.stored hp ..⟩
theorem IntCell.apart {w : World} {g g' : Nat} {z : Int} (h : IntCell w g z) (hp : Pair w g' 35) (hne : g ≠ g') (d : Bool) (p : Option Addr) (n c : Nat) :
    IntCell ((w.setCell ⟨g', 0, none⟩ (.bool d)).setCell ⟨g', 1, none⟩ (.slice p n c)) g z := by
  obtain ⟨d', p', n', c', h, hi⟩ := h
  exact ⟨d', p', n', c', ((Below.heap_setCell _ _ _ _ hne).trans (Below.heap_setCell _ _ _ _ hne)).trans h, hi.stored hp ..⟩
def RDivR (q r : Int) (w : World) (e : Ending) (w' : World) : Prop := ∃ v v', e = .returned (.tuple #[v, v']) ∧ IntAt w' v q ∧ IntAt w' v' r ∧ Below w.heap.size w w'

set_option maxRecDepth 100000 in
set_option maxHeartbeats 6400000 in
theorem RDiv_any (v0 v1 : Value) (a b : Int) (w : World) (h0 : RawAt w v0 a) (h1 : RawAt w v1 b) (hb0 : b ≠ 0) (ha : sz W a.natAbs ≤ 549755813888) (hbs : sz W b.natAbs ≤ 549755813888) :
    Calls Tryz.prog 45 #[v0, v1] w (RDivR (a / b) (a % b) w) := by
  obtain ⟨n0, s0, l0, rfl, a0, b0, c0, rfl⟩ := h0
  obtain ⟨n1, s1, l1, rfl, a1, b1, c1, rfl⟩ := h1
  rw [sg_natAbs] at ha hbs
  have g0 : ∀ W', Below w.heap.size w W' → Calls Tryz.prog 61 #[s0] W' (RAt .i64 (dig D (val W l0)) W') := fun W' hb => Digits_any s0 l0 W' (a0.below hb) b0 (by omega)
  have g1 : ∀ W', Below w.heap.size w W' → Calls Tryz.prog 61 #[s1] W' (RAt .i64 (dig D (val W l1)) W') := fun W' hb => Digits_any s1 l1 W' (a1.below hb) b1 (by omega)
  have hwb : ∀ W', Below w.heap.size w W' → Calls Tryz.prog 40 #[.bool false, s1] W' (RInt (val W l1 : Nat) W') := fun W' hb => by
    have := Whole_any false s1 l1 W' (a1.below hb) b1 (by omega)
    simpa [sg] using this
  have hy : 0 < val W l1 := Nat.pos_of_ne_zero fun e => hb0 (by rw [e, sg_zero])
  obtain ⟨x, hx⟩ : ∃ x, x = val W l0 := ⟨_, rfl⟩
  obtain ⟨y, hyv⟩ : ∃ y, y = val W l1 := ⟨_, rfl⟩
  rw [← hx] at g0 ha ⊢
  rw [← hyv] at g1 hwb hy hbs ⊢
  have d0 : sz D x ≤ 2199023255552 := Nat.le_trans (sz_D_W x) (by omega)
  have d1 : sz D y ≤ 2199023255552 := Nat.le_trans (sz_D_W y) (by omega)
  have dq : sz D (x / y) ≤ 2199023255552 := Nat.le_trans (sz_mono D2 (Nat.div_le_self x y)) d0
  have dr : sz D (x % y) ≤ 2199023255552 := Nat.le_trans (sz_mono D2 (Nat.mod_le x y)) d0
  have wq : sz W (x / y) ≤ 549755813888 := Nat.le_trans (sz_mono W2 (Nat.div_le_self x y)) ha
  have wr' : sz W (x % y) ≤ 549755813888 := Nat.le_trans (sz_mono W2 (Nat.mod_le x y)) ha
  have hpt : ∀ W' u u', At W' .i64 u (dig D x) → At W' .i64 u' (dig D y) → Calls Tryz.prog 66 #[u, u'] W' (RParts (x / y) (x % y) W') := fun W' u u' hu hu' => by
    have := rparts_any u u' _ y W' hu hu' (small_dig D2 x) hy (by show sz D x ≤ _; omega) d1
    rwa [val_dig D2] at this
  have hfr : ∀ n, sz D n ≤ 2199023255552 → ∀ W' u, At W' .i64 u (dig D n) → Calls Tryz.prog 60 #[u] W' (RAt .u64 (dig W n) W') := fun n hn W' u hu => by
    have := From_any u _ W' hu (small_dig D2 n) (by show sz D n ≤ _; omega)
    rwa [val_dig D2] at this
  have hwh : ∀ (neg : Bool) n, sz W n ≤ 549755813888 → ∀ W' u, At W' .u64 u (dig W n) → Calls Tryz.prog 40 #[.bool neg, u] W' (RInt (sg neg n) W') := fun neg n hn W' u hu => by
    have := Whole_any neg u _ W' hu (small_dig W2 n) (by show sz W n ≤ _; omega)
    rwa [val_dig W2] at this
  have Fq := hid (hfr _ dq); have Fr := hid (hfr _ dr); have Wq := hid (hwh (n0 != n1) _ wq); have Wr := hid (hwh n0 _ wr'); have G0 := hid g0; have G1 := hid g1; have HP := hid hpt; have HWB := hid hwb
  clear g0 g1 hwb hpt hfr hwh dq dr d0 d1 hx hyv a0 a1 b0 b1 c0 c1
  obtain ⟨Q, hQ⟩ : ∃ Q, Q = sg n0 x / sg n1 y := ⟨_, rfl⟩
  obtain ⟨R, hR⟩ : ∃ R, R = sg n0 x % sg n1 y := ⟨_, rfl⟩
  rw [← hQ, ← hR]
  have HQ := hid hQ; have HR := hid hR
  clear hQ hR hb0
  go_enter Tryz.func45, Tryz.ntmps45
  go_wp2_with fail
  generalize hW : World.alloc (World.alloc (World.alloc (World.alloc w _) _) _) _ = W3
  have bw : Below w.heap.size w W3 := by rw [← hW]; exact (((below1 _ _).alloc (by simp) _).alloc (by simp; omega) _).alloc (by simp; omega) _
  have hp : Pair W3 (w.heap.size + 1 + 1) 35 := by rw [← hW]; exact Pair.below (Pair.new2 ..) (below1 _ _)
  have hp' : Pair W3 (w.heap.size + 1 + 1 + 1) 35 := by rw [← hW]; exact Pair.new3 ..
  have tw : Two W3 w.heap.size (.bool n0) s0 (.bool n1) s1 := by rw [← hW]; exact (Two.new w _ _ _ _ _).below ((below1 _ _).alloc (by simp) _)
  have z3 : w.heap.size + 4 ≤ W3.heap.size := by rw [← hW]; simp
  have bw' := hid bw
  have HT := hid tw; have Hp := hid hp; have Hp' := hid hp'
  clear hW bw tw hp hp'
  have HS : Hid (∀ w', Below W3.heap.size W3 w' → w'.cell? ⟨w.heap.size, 0, none⟩ = some (.bool n0) ∧ w'.cell? ⟨w.heap.size, 1, none⟩ = some s0 ∧ w'.cell? ⟨w.heap.size + 1, 0, none⟩ = some (.bool n1) ∧ w'.cell? ⟨w.heap.size + 1, 1, none⟩ = some s1 ∧ Below W3.heap.size W3 w') := by
    intro w' hb
    have ht := HT.out.below hb
    exact ⟨ht.c00, ht.c01, ht.c10, ht.c11, hb⟩
  have HBW : Hid (∀ w', Below W3.heap.size W3 w' → Below w.heap.size w w') := fun w' hb => bw'.out.trans (hb.mono (by omega))
  go_region_held3 (fun w' => w'.cell? ⟨w.heap.size, 0, none⟩ = some (.bool n0) ∧ w'.cell? ⟨w.heap.size, 1, none⟩ = some s0 ∧ w'.cell? ⟨w.heap.size + 1, 0, none⟩ = some (.bool n1) ∧ w'.cell? ⟨w.heap.size + 1, 1, none⟩ = some s1 ∧ Below W3.heap.size W3 w')
    (first | exact HS.out _ (Below.drew (Below.refl _ _)) | (refine HS.out _ (Below.go hb ?_); go_split_ands; assumption))
    (first
      | (go_at_call_of 61 (s0); (fail_if_success have _t := i1); refine (G0.out _ (HBW.out _ (by go_split_ands; assumption))).mono ?_; rintro e w1 ⟨v1, rfl, i1, hb⟩)
      | (go_at_call_of 61 (s1); refine (G1.out _ (HBW.out _ (by go_split_ands; assumption))).mono ?_; rintro e w2 ⟨v2, rfl, i2, hb⟩; have i1' := i1.below hb; clear i1)
      | (go_at_call 66; refine (HP.out _ _ _ i1' i2).mono ?_; rintro e w3 ⟨v3, v4, rfl, i3, i4, hb⟩; clear i1' i2))
  rename_i hHeld
  go_split_ands
  have HB3 := hid (show Below W3.heap.size W3 w3 by assumption)
  have I3 := hid i3; have I4 := hid i4
  clear i3 i4
  go_upto_region 2 with fail
  have hB3 : W3.heap.size ≤ w3.heap.size := HB3.out.size
  go_cut [8, 9] (fun s8 s9 wx => ∃ g8 g9, s8 = .pointer (some ⟨g8, 0, none⟩) ∧ s9 = .pointer (some ⟨g9, 0, none⟩) ∧ g8 ≠ g9 ∧ w3.heap.size ≤ g8 ∧ w3.heap.size ≤ g9 ∧ IntCell wx g8 (sg (n0 != n1) (x / y)) ∧ IntCell wx g9 (sg n0 (x % y)) ∧ Below w3.heap.size w3 wx)
  case first =>
    rename_i Jc Kc hJc hKc
    refine wp_region_facts (w0 := w3) 15 2 [20, 21, 22, 23, 24, 25, 26, 27, 28, 29, 30, 31, 32, 8, 9] [undef, undef, undef, undef, undef, undef, undef, undef, undef, undef, undef, undef, undef, undef, undef]
      (fun i => match i with
        | 0 => eqF (.pointer (some ⟨w.heap.size, 0, none⟩)) | 1 => eqF (.bool n0) | 2 => eqF (.pointer (some ⟨w.heap.size + 1, 0, none⟩)) | 3 => eqF (.bool n1) | 4 => eqF (.bool (n0 != n1)) | 5 => eqF v3
        | 6 => atF (dig W (x / y)) | 7 => intF (sg (n0 != n1) (x / y)) | 8 => eqF (.pointer (some ⟨w.heap.size, 0, none⟩)) | 9 => eqF (.bool n0) | 10 => eqF v4 | 11 => atF (dig W (x % y)) | 12 => intF (sg n0 (x % y))
        | 13 => varF w3.heap.size | _ => varF w3.heap.size) [13, 14] (by kernel_rfl) (by kernel_rfl) (by kernel_rfl) (by kernel_rfl) (by decide) rfl (by kernel_rfl) rfl (by simp) ?he ?_ ?_ ?_
    case he => simp only [putAll, Act.put, List.setIfInBounds_toArray, List.set_cons_zero, List.set_cons_succ]
    · intro i hi v w' h
      simp only [List.mem_cons, List.not_mem_nil, or_false] at hi
      rcases hi with rfl | rfl
      · obtain ⟨g, hg, hp, -⟩ := (show VarAt w' w3.heap.size v from h); exact ⟨g, hg, hp.lt⟩
      · obtain ⟨g, hg, hp, -⟩ := (show VarAt w' w3.heap.size v from h); exact ⟨g, hg, hp.lt⟩
    · intro i o hi ho vs wx hvl hb hdep K hK
      have hvs := len15 hvl
      obtain ⟨s20, s21, s22, s23, s24, s25, s26, s27, s28, s29, s30, s31, s32, s8, s9, rfl⟩ := hvs
      have hk := HS.out wx (Below.go hb HB3.out)
      clear hvl
      go_split_ands
      rcases i with _ | _ | _ | _ | _ | _ | _ | _ | _ | _ | _ | _ | _ | _ | _ | i
      all_goals (simp only [List.getElem?_toArray, List.getElem?_cons_zero, List.getElem?_cons_succ, Option.some.injEq] at ho)
      all_goals try (subst ho)
      all_goals try simp only [putAll, Act.put, List.setIfInBounds_toArray, List.set_cons_zero, List.set_cons_succ]
      · go_simp
        have hK' := hK.out
        simp only [putAll, Act.put, List.setIfInBounds_toArray, List.set_cons_zero, List.set_cons_succ] at hK'
        exact hK' _ _ rfl (Below.refl _ _) (by simp)
      · have d0 : s20 = _ := hdep ⟨0, .data⟩ (by simp) rfl
        subst d0
        go_simp
        have hK' := hK.out
        simp only [putAll, Act.put, List.setIfInBounds_toArray, List.set_cons_zero, List.set_cons_succ] at hK'
        exact hK' _ _ rfl (Below.refl _ _) (by simp)
      · go_simp
        have hK' := hK.out
        simp only [putAll, Act.put, List.setIfInBounds_toArray, List.set_cons_zero, List.set_cons_succ] at hK'
        exact hK' _ _ rfl (Below.refl _ _) (by simp)
      · have d2 : s22 = _ := hdep ⟨2, .data⟩ (by simp) rfl
        subst d2
        go_simp
        have hK' := hK.out
        simp only [putAll, Act.put, List.setIfInBounds_toArray, List.set_cons_zero, List.set_cons_succ] at hK'
        exact hK' _ _ rfl (Below.refl _ _) (by simp)
      · have d1 : s21 = _ := hdep ⟨1, .data⟩ (by simp) rfl
        subst d1
        have d3 : s23 = _ := hdep ⟨3, .data⟩ (by simp) rfl
        subst d3
        go_simp
        have hK' := hK.out
        simp only [putAll, Act.put, List.setIfInBounds_toArray, List.set_cons_zero, List.set_cons_succ] at hK'
        exact hK' _ _ rfl (Below.refl _ _) (by simp)
      · go_simp
        have hK' := hK.out
        simp only [putAll, Act.put, List.setIfInBounds_toArray, List.set_cons_zero, List.set_cons_succ] at hK'
        exact hK' _ _ rfl (Below.refl _ _) (by simp)
      · have d5 : s25 = _ := hdep ⟨5, .data⟩ (by simp) rfl
        subst d5
        go_simp
        refine (Fq.out _ _ (I3.out.below hb)).mono ?_
        rintro e wy ⟨vy, rfl, iy, hby⟩
        go_wp2_with fail
        have hK' := hK.out
        simp only [putAll, Act.put, List.setIfInBounds_toArray, List.set_cons_zero, List.set_cons_succ] at hK'
        exact hK' _ _ iy hby (by simp)
      · have d4 : s24 = _ := hdep ⟨4, .data⟩ (by simp) rfl
        subst d4
        have d6 : At wx .u64 s26 _ := hdep ⟨6, .data⟩ (by simp) rfl
        go_simp
        refine (Wq.out _ _ d6).mono ?_
        rintro e wy ⟨vy, rfl, iy, hby⟩
        have hsh := iy.shape
        obtain ⟨p5, n5, c5, rfl, iy⟩ := hsh
        go_wp2_with fail
        have hK' := hK.out
        simp only [putAll, Act.put, List.setIfInBounds_toArray, List.set_cons_zero, List.set_cons_succ] at hK'
        exact hK' _ _ ⟨_, _, _, _, rfl, iy⟩ hby (by simp)
      · go_simp
        have hK' := hK.out
        simp only [putAll, Act.put, List.setIfInBounds_toArray, List.set_cons_zero, List.set_cons_succ] at hK'
        exact hK' _ _ rfl (Below.refl _ _) (by simp)
      · have d8 : s28 = _ := hdep ⟨8, .data⟩ (by simp) rfl
        subst d8
        go_simp
        have hK' := hK.out
        simp only [putAll, Act.put, List.setIfInBounds_toArray, List.set_cons_zero, List.set_cons_succ] at hK'
        exact hK' _ _ rfl (Below.refl _ _) (by simp)
      · go_simp
        have hK' := hK.out
        simp only [putAll, Act.put, List.setIfInBounds_toArray, List.set_cons_zero, List.set_cons_succ] at hK'
        exact hK' _ _ rfl (Below.refl _ _) (by simp)
      · have d10 : s30 = _ := hdep ⟨10, .data⟩ (by simp) rfl
        subst d10
        go_simp
        refine (Fr.out _ _ (I4.out.below hb)).mono ?_
        rintro e wy ⟨vy, rfl, iy, hby⟩
        go_wp2_with fail
        have hK' := hK.out
        simp only [putAll, Act.put, List.setIfInBounds_toArray, List.set_cons_zero, List.set_cons_succ] at hK'
        exact hK' _ _ iy hby (by simp)
      · have d9 : s29 = _ := hdep ⟨9, .data⟩ (by simp) rfl
        subst d9
        have d11 : At wx .u64 s31 _ := hdep ⟨11, .data⟩ (by simp) rfl
        go_simp
        refine (Wr.out _ _ d11).mono ?_
        rintro e wy ⟨vy, rfl, iy, hby⟩
        have hsh := iy.shape
        obtain ⟨p5, n5, c5, rfl, iy⟩ := hsh
        go_wp2_with fail
        have hK' := hK.out
        simp only [putAll, Act.put, List.setIfInBounds_toArray, List.set_cons_zero, List.set_cons_succ] at hK'
        exact hK' _ _ ⟨_, _, _, _, rfl, iy⟩ hby (by simp)
      · go_simp
        have hK' := hK.out
        simp only [putAll, Act.put, List.setIfInBounds_toArray, List.set_cons_zero, List.set_cons_succ] at hK'
        exact hK' _ _ ⟨_, rfl, Pair.new .., hb.size⟩ (below1 _ _) (fun _ => rfl)
      · go_simp
        have hK' := hK.out
        simp only [putAll, Act.put, List.setIfInBounds_toArray, List.set_cons_zero, List.set_cons_succ] at hK'
        exact hK' _ _ ⟨_, rfl, Pair.new .., hb.size⟩ (below1 _ _) (fun _ => rfl)
      · omega
    · intro vs wx hvl hb hf hdist
      have hvs := len15 hvl
      obtain ⟨s20, s21, s22, s23, s24, s25, s26, s27, s28, s29, s30, s31, s32, s8, s9, rfl⟩ := hvs
      have f7 : (intF (sg (n0 != n1) (x / y))).P s27 wx := hf 7 (by decide)
      have f12 : (intF (sg n0 (x % y))).P s32 wx := hf 12 (by decide)
      have f13 : VarAt wx w3.heap.size s8 := hf 13 (by decide)
      have f14 : VarAt wx w3.heap.size s9 := hf 14 (by decide)
      have hne : s8 ≠ s9 := hdist 13 (by simp) 14 (by simp) (by decide)
      obtain ⟨d7, p7, m7, c7, rfl, i7⟩ := f7
      obtain ⟨d12, p12, m12, c12, rfl, i12⟩ := f12
      obtain ⟨g8, rfl, hp8, hB8⟩ := f13
      obtain ⟨g9, rfl, hp9, hB9⟩ := f14
      have hgne : g8 ≠ g9 := fun e => hne (by rw [e])
      have c8 := hp8.cells
      obtain ⟨_, _, q0, q1, q2, q3⟩ := c8
      clear hf hdist hvl hne
      refine wpAny_one (i := 15) (by kernel_rfl) rfl ?_
      intro K hK
      simp only [putAll, Act.put, List.setIfInBounds_toArray, List.set_cons_zero, List.set_cons_succ]
      go_simp
      have hK' := hK.out
      apply hK'
      clear hK hK'
      have x8 := IntCell.put hp8 i7
      have hp9' := hp9.apart hgne.symm (.bool d7) (.slice p7 m7 c7)
      have i12' := i12.stored hp8 d7 p7 m7 c7
      have hb' := Below.stored hb hB8 (.bool d7) (.slice p7 m7 c7)
      clear q0 q1 q2 q3 hp8 hp9 i7 i12
      generalize ((wx.setCell ⟨g8, 0, none⟩ (.bool d7)).setCell ⟨g8, 1, none⟩ (.slice p7 m7 c7)) = wy at *
      have c9 := hp9'.cells
      obtain ⟨_, _, q0, q1, q2, q3⟩ := c9
      refine wpAny_one (i := 16) (by kernel_rfl) rfl ?_
      intro K hK
      go_simp
      have hK' := hK.out
      apply hK'
      clear hK hK'
      refine wpAny_done (by kernel_rfl) ?_ _
      refine hKc _ _ (Met.intro (hJc _ _ ?_))
      (repeat apply Exists.intro)
      exact ⟨⟨g8, g9, rfl, rfl, hgne, hB8, hB9, x8.apart hp9' hgne .., IntCell.put hp9' i12', Below.stored hb' hB9 ..⟩, rfl⟩
  case rest =>
    obtain ⟨g8, g9, rfl, rfl, hgne, hB8, hB9, C8, C9, hbc⟩ := hcut
    have z8 : w.heap.size + 4 ≤ g8 := by omega
    have z9 : w.heap.size + 4 ≤ g9 := by omega
    have y8 : W3.heap.size ≤ g8 := by omega
    have y9 : W3.heap.size ≤ g9 := by omega
    have HBc := hid (Below.go hbc HB3.out)
    clear hbc hB8 hB9 hB3
    by_cases hA : n0 = false ∨ x % y = 0
    · have EX : sg (n0 != n1) (x / y) = Q ∧ sg n0 (x % y) = R ∧ 0 ≤ R := by
        rw [HQ.out, HR.out]
        rcases hA with rfl | h0
        · have := div_pos_case (x := x) n1 hy
          have e : sg false x = (x : Int) := by simp [sg]
          have e2 : sg false (x % y) = ((x % y : Nat) : Int) := by simp [sg]
          rw [e, this.1, this.2, e2]
          exact ⟨rfl, rfl, by omega⟩
        · cases n0
          · have := div_pos_case (x := x) n1 hy
            have e : sg false x = (x : Int) := by simp [sg]
            have e2 : sg false (x % y) = ((x % y : Nat) : Int) := by simp [sg]
            rw [e, this.1, this.2, e2]
            exact ⟨rfl, rfl, by omega⟩
          · have := div_neg_even (x := x) n1 hy h0
            have e : sg true x = -(x : Int) := by simp [sg]
            rw [e, this.1, this.2, h0, sg_zero]
            exact ⟨rfl, rfl, by omega⟩
      obtain ⟨ex, ey, hR0⟩ := EX
      rw [ex] at C8
      rw [ey] at C9
      clear ex ey hA
      have hs0 : 0 ≤ R.sign := Int.sign_nonneg_iff.2 hR0
      have hs1 : ¬ R.sign < 0 := by omega
      have t9 := C9
      obtain ⟨d9, p9, m9, c9, e9, i9⟩ := t9
      have e9' := two_cells e9
      obtain ⟨x90, x91, -, -⟩ := e9'
      have hRs : sz W R.natAbs ≤ 1099511627776 := by
        rw [HR.out]
        refine Nat.le_trans (sz_mono W2 (m := y) ?_) (by omega)
        have h1 := Int.emod_nonneg (sg n0 x) (b := sg n1 y) (by intro e; have := congrArg Int.natAbs e; rw [sg_natAbs] at this; simp at this; omega)
        have h2 := Int.emod_lt (sg n0 x) (b := sg n1 y) (by intro e; have := congrArg Int.natAbs e; rw [sg_natAbs] at this; simp at this; omega)
        rw [sg_natAbs] at h2
        omega
      have hsg := hid (RSign_any _ R wc (i9.raw hRs))
      clear e9 i9 hRs
      go_wp2_with fail
      refine wp_loop_rounds 1 ?_
      rw [rounds_succ]
      go_wp2_with fail
      refine hsg.out.mono ?_
      rintro e wz ⟨rfl, hbz⟩
      have HBz := hid (Below.go hbz HBc.out)
      have C8 := C8.below hbz
      have C9 := C9.below hbz
      clear hbz x90 x91 hsg
      have t8 := C8; have t9 := C9
      obtain ⟨d8, p8, m8, c8, e8, i8⟩ := t8
      obtain ⟨d9, p9, m9, c9, e9, i9⟩ := t9
      have P4 := Hp.out.below HBz.out
      have P5 := Hp'.out.below HBz.out
      have e8' := two_cells e8
      obtain ⟨x80, x81, -, -⟩ := e8'
      have e9' := two_cells e9
      obtain ⟨x90, x91, -, -⟩ := e9'
      have P4' := P4.cells
      obtain ⟨_, _, q0, q1, q2, q3⟩ := P4'
      have P5' := P5.cells
      obtain ⟨_, _, r0, r1, r2, r3⟩ := P5'
      have P5s := P5.apart (g' := w.heap.size + 1 + 1) (by omega) (.bool d8) (.slice p8 m8 c8)
      have j8 := hid ((i8.stored P4 d8 p8 m8 c8).stored P5s d9 p9 m9 c9)
      have j9 := hid ((i9.stored P4 d8 p8 m8 c8).stored P5s d9 p9 m9 c9)
      have bz := hid (Below.stored (Below.stored (bw'.out.trans (HBz.out.mono (B' := w.heap.size) (by omega))) (g := w.heap.size + 1 + 1) (by omega) (.bool d8) (.slice p8 m8 c8)) (g := w.heap.size + 1 + 1 + 1) (by omega) (.bool d9) (.slice p9 m9 c9))
      clear P4 P5 P5s i8 i9 e8 e9 C8 C9
      go_wp2_with fail
      go_region
      go_wp2_with fail
      exact bodyPost_ret (v := .tuple #[.agg #[.bool d8, .slice p8 m8 c8], .agg #[.bool d9, .slice p9 m9 c9]])
        (by simp [results, Tryz.results45, go_sem, q0, q1, r0, r1]) rfl
        ⟨_, _, rfl, j8.out, j9.out, bz.out.drew⟩
    · obtain ⟨hn0, hm0⟩ : n0 = true ∧ 0 < x % y := by
        cases n0
        · exact absurd (Or.inl rfl) hA
        · exact ⟨rfl, Nat.pos_of_ne_zero fun e => hA (Or.inr e)⟩
      subst hn0
      obtain ⟨X0, hX0⟩ : ∃ z, z = sg (true != n1) (x / y) := ⟨_, rfl⟩
      obtain ⟨Y0, hY0⟩ : ∃ z, z = sg true (x % y) := ⟨_, rfl⟩
      rw [← hX0] at C8
      rw [← hY0] at C9
      have hodd := div_neg_odd (x := x) n1 hy hm0
      have ex : sg true x = -(x : Int) := by simp [sg]
      have hlt := Nat.mod_lt x hy
      have hYn : Y0 = -((x % y : Nat) : Int) := by rw [hY0]; simp [sg]
      have hYR : Y0 + (y : Int) = R := by rw [HR.out, ex, hodd.2, hYn]; omega
      have hXQ : (if n1 then X0 + 1 else X0 - 1) = Q := by
        rw [HQ.out, ex, hodd.1, hX0]
        cases n1 <;> simp [sg] <;> omega
      have hYs : Y0.sign = -1 := Int.sign_eq_neg_one_of_neg (by rw [hYn]; omega)
      have hX0s : sz W X0.natAbs ≤ 549755813888 := by rw [hX0, sg_natAbs]; exact wq
      have hY0s : sz W Y0.natAbs ≤ 549755813888 := by rw [hY0, sg_natAbs]; exact wr'
      have hys : sz W ((y : Nat) : Int).natAbs ≤ 549755813888 := hbs
      have hR0 : 0 < R := by rw [← hYR, hYn]; omega
      have hRs : sz W R.natAbs ≤ 1099511627776 := by
        refine Nat.le_trans (sz_mono W2 (m := y) ?_) (by omega)
        rw [← hYR, hYn]; omega
      have HYR := hid hYR; have HXQ := hid hXQ
      clear hX0 hY0 hodd ex hYn hXQ hYR hA hlt hm0
      have t9 := C9
      obtain ⟨d9, p9, m9, c9, e9, i9⟩ := t9
      have e9' := two_cells e9
      obtain ⟨x90, x91, -, -⟩ := e9'
      have hsg := RSign_any _ Y0 wc (i9.raw (Nat.le_trans hY0s (by decide)))
      rw [hYs] at hsg
      have Hsg := hid hsg
      clear e9 i9 hYs hsg
      go_wp2_with fail
      refine wp_loop_rounds 2 ?_
      rw [rounds_succ]
      go_wp2_with fail
      refine Hsg.out.mono ?_
      rintro e wa ⟨rfl, hba⟩
      have HBa := hid (Below.go hba HBc.out)
      have A8 := C8.below hba
      have A9 := C9.below hba
      clear hba x90 x91 Hsg C8 C9
      go_upto_region 4 with fail
      go_cut [] (fun wx => IntCell wx g8 X0 ∧ IntCell wx g9 R ∧ Below W3.heap.size W3 wx)
      case first =>
        rename_i Jc Kc hJc hKc
        have t9 := A9
        obtain ⟨d9, p9, m9, c9, e9, i9⟩ := t9
        have hy9 := i9.raw (Nat.le_trans hY0s (by decide))
        refine wp_region_facts (w0 := wa) 5 1 [36, 37, 38, 39, 40] [u36, u37, u38, u39, u40]
          (fun i => match i with | 0 => eqF (.agg #[.bool d9, .slice p9 m9 c9]) | 1 => eqF (.pointer (some ⟨w.heap.size + 1, 1, none⟩)) | 2 => eqF s1 | 3 => intF (y : Nat) | _ => intF R) [] (by kernel_rfl) (by kernel_rfl) (by kernel_rfl) (by kernel_rfl) (by decide) rfl (by kernel_rfl) rfl (by simp) ?he (by simp) ?_ ?_
        case he => simp only [putAll, Act.put, List.setIfInBounds_toArray, List.set_cons_zero, List.set_cons_succ]
        · intro i o hi ho vs wx hvl hb hdep K hK
          have hvs := len5 hvl
          obtain ⟨s0', s1', s2', s3', s4', rfl⟩ := hvs
          have hk := HS.out wx (Below.go hb HBa.out)
          have x9 := two_cells (((hb.block g9 (Array.getElem?_eq_some_iff.1 e9).1)).trans e9)
          obtain ⟨x90, x91, -, -⟩ := x9
          clear hvl
          go_split_ands
          rcases i with _ | _ | _ | _ | _ | i
          all_goals (simp only [List.getElem?_toArray, List.getElem?_cons_zero, List.getElem?_cons_succ, Option.some.injEq] at ho)
          all_goals try (subst ho)
          all_goals try simp only [putAll, Act.put, List.setIfInBounds_toArray, List.set_cons_zero, List.set_cons_succ]
          · go_simp
            have hK' := hK.out
            simp only [putAll, Act.put, List.setIfInBounds_toArray, List.set_cons_zero, List.set_cons_succ] at hK'
            exact hK' _ _ rfl (Below.refl _ _) (by simp)
          · go_simp
            have hK' := hK.out
            simp only [putAll, Act.put, List.setIfInBounds_toArray, List.set_cons_zero, List.set_cons_succ] at hK'
            exact hK' _ _ rfl (Below.refl _ _) (by simp)
          · have d1 : s1' = _ := hdep ⟨1, .data⟩ (by simp) rfl
            subst d1
            go_simp
            have hK' := hK.out
            simp only [putAll, Act.put, List.setIfInBounds_toArray, List.set_cons_zero, List.set_cons_succ] at hK'
            exact hK' _ _ rfl (Below.refl _ _) (by simp)
          · have d2 : s2' = _ := hdep ⟨2, .data⟩ (by simp) rfl
            subst d2
            go_simp
            refine (HWB.out _ (HBW.out _ (Below.go hb HBa.out))).mono ?_
            rintro e wy ⟨vy, rfl, iy, hby⟩
            have hsh := iy.shape
            obtain ⟨p5, n5, c5, rfl, iy⟩ := hsh
            go_wp2_with fail
            have hK' := hK.out
            simp only [putAll, Act.put, List.setIfInBounds_toArray, List.set_cons_zero, List.set_cons_succ] at hK'
            exact hK' _ _ ⟨_, _, _, _, rfl, iy⟩ hby (by simp)
          · have d0 : s0' = _ := hdep ⟨0, .data⟩ (by simp) rfl
            have d3 : (intF (y : Nat)).P s3' wx := hdep ⟨3, .data⟩ (by simp) rfl
            subst d0
            obtain ⟨dd, pp, nn, cc, rfl, ii⟩ := d3
            go_simp
            refine (RAdd_any _ _ Y0 (y : Nat) wx (hy9.below hb) (ii.raw (Nat.le_trans hys (by decide)))).mono ?_
            rw [HYR.out]
            rintro e wy ⟨vy, rfl, iy, hby⟩
            have hsh := iy.shape
            obtain ⟨p5, n5, c5, rfl, iy⟩ := hsh
            go_wp2_with fail
            have hK' := hK.out
            simp only [putAll, Act.put, List.setIfInBounds_toArray, List.set_cons_zero, List.set_cons_succ] at hK'
            exact hK' _ _ ⟨_, _, _, _, rfl, iy⟩ hby (by simp)
          · omega
        · intro vs wx hvl hb hf hdist
          have hvs := len5 hvl
          obtain ⟨s0', s1', s2', s3', s4', rfl⟩ := hvs
          have f4 : (intF R).P s4' wx := hf 4 (by decide)
          obtain ⟨dq, pq, mq, cq, rfl, iq⟩ := f4
          clear hf hdist hvl
          have P9 := (A9.below hb).pair
          have x9 := P9.cells
          obtain ⟨_, _, q0, q1, q2, q3⟩ := x9
          refine wpAny_one (i := 5) (by kernel_rfl) rfl ?_
          intro K hK
          simp only [putAll, Act.put, List.setIfInBounds_toArray, List.set_cons_zero, List.set_cons_succ]
          go_simp
          have hK' := hK.out
          apply hK'
          clear hK hK'
          refine wpAny_done (by kernel_rfl) ?_ _
          refine hKc _ _ (Met.intro (hJc _ _ ?_))
          (repeat apply Exists.intro)
          exact ⟨⟨(A8.below hb).apart P9 hgne .., IntCell.put P9 iq, Below.stored (Below.go hb HBa.out) (by omega) ..⟩, rfl⟩
      case rest =>
        obtain ⟨D8, D9, hbd⟩ := hcut
        have HBd := hid hbd
        clear hbd A8 A9
        have hk := HS.out _ HBd.out
        go_split_ands
        have hs0 : 0 ≤ R.sign := Int.sign_nonneg_iff.2 (by omega)
        have hs1 : ¬ R.sign < 0 := by omega
        cases n1
        · have hq1 : X0 - 1 = Q := by have := HXQ.out; simpa using this
          go_upto_region 7 with fail
          · skip
            have t8 := D8
            obtain ⟨d8, p8, m8, c8, e8, i8⟩ := t8
            have hx8 := i8.raw (Nat.le_trans hX0s (by decide))
            refine wp_region_facts (w0 := wc) 3 1 [46, 47, 48] [u46, u47, u48]
              (fun i => match i with | 0 => eqF (.agg #[.bool d8, .slice p8 m8 c8]) | 1 => intF 1 | _ => intF Q) [] (by kernel_rfl) (by kernel_rfl) (by kernel_rfl) (by kernel_rfl) (by decide) rfl (by kernel_rfl) rfl (by simp) ?he (by simp) ?_ ?_
            case he => simp only [putAll, Act.put, List.setIfInBounds_toArray, List.set_cons_zero, List.set_cons_succ]
            · intro i o hi ho vs wx hvl hb hdep K hK
              have hvs := len3 hvl
              obtain ⟨s0', s1', s2', rfl⟩ := hvs
              have x8 := two_cells (((hb.block g8 (Array.getElem?_eq_some_iff.1 e8).1)).trans e8)
              obtain ⟨x80, x81, -, -⟩ := x8
              clear hvl
              rcases i with _ | _ | _ | i
              all_goals (simp only [List.getElem?_toArray, List.getElem?_cons_zero, List.getElem?_cons_succ, Option.some.injEq] at ho)
              all_goals try (subst ho)
              all_goals try simp only [putAll, Act.put, List.setIfInBounds_toArray, List.set_cons_zero, List.set_cons_succ]
              · go_simp
                have hK' := hK.out
                simp only [putAll, Act.put, List.setIfInBounds_toArray, List.set_cons_zero, List.set_cons_succ] at hK'
                exact hK' _ _ rfl (Below.refl _ _) (by simp)
              · go_simp
                refine (ROf_any 1 wx (by decide) (by decide)).mono ?_
                rintro e wy ⟨vy, rfl, iy, hby⟩
                have hsh := iy.shape
                obtain ⟨p5, n5, c5, rfl, iy⟩ := hsh
                go_wp2_with fail
                have hK' := hK.out
                simp only [putAll, Act.put, List.setIfInBounds_toArray, List.set_cons_zero, List.set_cons_succ] at hK'
                exact hK' _ _ ⟨_, _, _, _, rfl, iy⟩ hby (by simp)
              · have d0 : s0' = _ := hdep ⟨0, .data⟩ (by simp) rfl
                have d1 : (intF 1).P s1' wx := hdep ⟨1, .data⟩ (by simp) rfl
                subst d0
                obtain ⟨dd, pp, nn, cc, rfl, ii⟩ := d1
                go_simp
                refine (RSub_any _ _ X0 1 wx (hx8.below hb) (ii.raw (by decide))).mono ?_
                rw [hq1]
                rintro e wy ⟨vy, rfl, iy, hby⟩
                have hsh := iy.shape
                obtain ⟨p5, n5, c5, rfl, iy⟩ := hsh
                go_wp2_with fail
                have hK' := hK.out
                simp only [putAll, Act.put, List.setIfInBounds_toArray, List.set_cons_zero, List.set_cons_succ] at hK'
                exact hK' _ _ ⟨_, _, _, _, rfl, iy⟩ hby (by simp)
              · omega
            · intro vs wx hvl hb hf hdist
              have hvs := len3 hvl
              obtain ⟨s0', s1', s2', rfl⟩ := hvs
              have f2 : (intF Q).P s2' wx := hf 2 (by decide)
              obtain ⟨dq, pq, mq, cq, rfl, iq⟩ := f2
              clear hf hdist hvl
              have P8 := (D8.below hb).pair
              have x8 := P8.cells
              obtain ⟨_, _, q0, q1, q2, q3⟩ := x8
              refine wpAny_one (i := 3) (by kernel_rfl) rfl ?_
              intro K hK
              simp only [putAll, Act.put, List.setIfInBounds_toArray, List.set_cons_zero, List.set_cons_succ]
              go_simp
              have hK' := hK.out
              apply hK'
              clear hK hK'
              refine wpAny_done (by kernel_rfl) ?_ _
              have C8 := IntCell.put P8 iq
              have C9 := (D9.below hb).apart P8 hgne.symm dq pq mq cq
              have HBf := hid (Below.stored (Below.go hb HBd.out) (g := g8) (by omega) (.bool dq) (.slice pq mq cq))
              generalize ((wx.setCell ⟨g8, 0, none⟩ (.bool dq)).setCell ⟨g8, 1, none⟩ (.slice pq mq cq)) = wf at *
              clear D8 D9 P8 q0 q1 q2 q3 hb
              have t9 := C9
              obtain ⟨d9, p9, m9, c9, e9, i9⟩ := t9
              have e9' := two_cells e9
              obtain ⟨x90, x91, -, -⟩ := e9'
              have hsg2 := hid (RSign_any _ R _ (i9.raw hRs))
              clear e9 i9
              go_wp2_with fail
              rw [rounds_succ]
              go_wp2_with fail
              refine hsg2.out.mono ?_
              rintro e wz ⟨rfl, hbz⟩
              have HBz := hid (Below.go hbz HBf.out)
              have C8 := C8.below hbz
              have C9 := C9.below hbz
              clear hbz x90 x91 hsg2
              have t8 := C8; have t9 := C9
              obtain ⟨d8, p8, m8, c8, e8, i8⟩ := t8
              obtain ⟨d9, p9, m9, c9, e9, i9⟩ := t9
              have P4 := Hp.out.below HBz.out
              have P5 := Hp'.out.below HBz.out
              have e8' := two_cells e8
              obtain ⟨x80, x81, -, -⟩ := e8'
              have e9' := two_cells e9
              obtain ⟨x90, x91, -, -⟩ := e9'
              have P4' := P4.cells
              obtain ⟨_, _, q0, q1, q2, q3⟩ := P4'
              have P5' := P5.cells
              obtain ⟨_, _, r0, r1, r2, r3⟩ := P5'
              have P5s := P5.apart (g' := w.heap.size + 1 + 1) (by omega) (.bool d8) (.slice p8 m8 c8)
              have j8 := hid ((i8.stored P4 d8 p8 m8 c8).stored P5s d9 p9 m9 c9)
              have j9 := hid ((i9.stored P4 d8 p8 m8 c8).stored P5s d9 p9 m9 c9)
              have bz := hid (Below.stored (Below.stored (bw'.out.trans (HBz.out.mono (B' := w.heap.size) (by omega))) (g := w.heap.size + 1 + 1) (by omega) (.bool d8) (.slice p8 m8 c8)) (g := w.heap.size + 1 + 1 + 1) (by omega) (.bool d9) (.slice p9 m9 c9))
              clear P4 P5 P5s i8 i9 e8 e9 C8 C9
              go_wp2_with fail
              go_region
              go_wp2_with fail
              exact bodyPost_ret (v := .tuple #[.agg #[.bool d8, .slice p8 m8 c8], .agg #[.bool d9, .slice p9 m9 c9]])
                (by simp [results, Tryz.results45, go_sem, q0, q1, r0, r1]) rfl
                ⟨_, _, rfl, j8.out, j9.out, bz.out.drew⟩
        · have hq1 : X0 + 1 = Q := by have := HXQ.out; simpa using this
          go_upto_region 6 with fail
          · skip
            have t8 := D8
            obtain ⟨d8, p8, m8, c8, e8, i8⟩ := t8
            have hx8 := i8.raw (Nat.le_trans hX0s (by decide))
            refine wp_region_facts (w0 := wc) 3 1 [43, 44, 45] [u43, u44, u45]
              (fun i => match i with | 0 => eqF (.agg #[.bool d8, .slice p8 m8 c8]) | 1 => intF 1 | _ => intF Q) [] (by kernel_rfl) (by kernel_rfl) (by kernel_rfl) (by kernel_rfl) (by decide) rfl (by kernel_rfl) rfl (by simp) ?he (by simp) ?_ ?_
            case he => simp only [putAll, Act.put, List.setIfInBounds_toArray, List.set_cons_zero, List.set_cons_succ]
            · intro i o hi ho vs wx hvl hb hdep K hK
              have hvs := len3 hvl
              obtain ⟨s0', s1', s2', rfl⟩ := hvs
              have x8 := two_cells (((hb.block g8 (Array.getElem?_eq_some_iff.1 e8).1)).trans e8)
              obtain ⟨x80, x81, -, -⟩ := x8
              clear hvl
              rcases i with _ | _ | _ | i
              all_goals (simp only [List.getElem?_toArray, List.getElem?_cons_zero, List.getElem?_cons_succ, Option.some.injEq] at ho)
              all_goals try (subst ho)
              all_goals try simp only [putAll, Act.put, List.setIfInBounds_toArray, List.set_cons_zero, List.set_cons_succ]
              · go_simp
                have hK' := hK.out
                simp only [putAll, Act.put, List.setIfInBounds_toArray, List.set_cons_zero, List.set_cons_succ] at hK'
                exact hK' _ _ rfl (Below.refl _ _) (by simp)
              · go_simp
                refine (ROf_any 1 wx (by decide) (by decide)).mono ?_
                rintro e wy ⟨vy, rfl, iy, hby⟩
                have hsh := iy.shape
                obtain ⟨p5, n5, c5, rfl, iy⟩ := hsh
                go_wp2_with fail
                have hK' := hK.out
                simp only [putAll, Act.put, List.setIfInBounds_toArray, List.set_cons_zero, List.set_cons_succ] at hK'
                exact hK' _ _ ⟨_, _, _, _, rfl, iy⟩ hby (by simp)
              · have d0 : s0' = _ := hdep ⟨0, .data⟩ (by simp) rfl
                have d1 : (intF 1).P s1' wx := hdep ⟨1, .data⟩ (by simp) rfl
                subst d0
                obtain ⟨dd, pp, nn, cc, rfl, ii⟩ := d1
                go_simp
                refine (RAdd_any _ _ X0 1 wx (hx8.below hb) (ii.raw (by decide))).mono ?_
                rw [hq1]
                rintro e wy ⟨vy, rfl, iy, hby⟩
                have hsh := iy.shape
                obtain ⟨p5, n5, c5, rfl, iy⟩ := hsh
                go_wp2_with fail
                have hK' := hK.out
                simp only [putAll, Act.put, List.setIfInBounds_toArray, List.set_cons_zero, List.set_cons_succ] at hK'
                exact hK' _ _ ⟨_, _, _, _, rfl, iy⟩ hby (by simp)
              · omega
            · intro vs wx hvl hb hf hdist
              have hvs := len3 hvl
              obtain ⟨s0', s1', s2', rfl⟩ := hvs
              have f2 : (intF Q).P s2' wx := hf 2 (by decide)
              obtain ⟨dq, pq, mq, cq, rfl, iq⟩ := f2
              clear hf hdist hvl
              have P8 := (D8.below hb).pair
              have x8 := P8.cells
              obtain ⟨_, _, q0, q1, q2, q3⟩ := x8
              refine wpAny_one (i := 3) (by kernel_rfl) rfl ?_
              intro K hK
              simp only [putAll, Act.put, List.setIfInBounds_toArray, List.set_cons_zero, List.set_cons_succ]
              go_simp
              have hK' := hK.out
              apply hK'
              clear hK hK'
              refine wpAny_done (by kernel_rfl) ?_ _
              have C8 := IntCell.put P8 iq
              have C9 := (D9.below hb).apart P8 hgne.symm dq pq mq cq
              have HBf := hid (Below.stored (Below.go hb HBd.out) (g := g8) (by omega) (.bool dq) (.slice pq mq cq))
              generalize ((wx.setCell ⟨g8, 0, none⟩ (.bool dq)).setCell ⟨g8, 1, none⟩ (.slice pq mq cq)) = wf at *
              clear D8 D9 P8 q0 q1 q2 q3 hb
              have t9 := C9
              obtain ⟨d9, p9, m9, c9, e9, i9⟩ := t9
              have e9' := two_cells e9
              obtain ⟨x90, x91, -, -⟩ := e9'
              have hsg2 := hid (RSign_any _ R _ (i9.raw hRs))
              clear e9 i9
              go_wp2_with fail
              rw [rounds_succ]
              go_wp2_with fail
              refine hsg2.out.mono ?_
              rintro e wz ⟨rfl, hbz⟩
              have HBz := hid (Below.go hbz HBf.out)
              have C8 := C8.below hbz
              have C9 := C9.below hbz
              clear hbz x90 x91 hsg2
              have t8 := C8; have t9 := C9
              obtain ⟨d8, p8, m8, c8, e8, i8⟩ := t8
              obtain ⟨d9, p9, m9, c9, e9, i9⟩ := t9
              have P4 := Hp.out.below HBz.out
              have P5 := Hp'.out.below HBz.out
              have e8' := two_cells e8
              obtain ⟨x80, x81, -, -⟩ := e8'
              have e9' := two_cells e9
              obtain ⟨x90, x91, -, -⟩ := e9'
              have P4' := P4.cells
              obtain ⟨_, _, q0, q1, q2, q3⟩ := P4'
              have P5' := P5.cells
              obtain ⟨_, _, r0, r1, r2, r3⟩ := P5'
              have P5s := P5.apart (g' := w.heap.size + 1 + 1) (by omega) (.bool d8) (.slice p8 m8 c8)
              have j8 := hid ((i8.stored P4 d8 p8 m8 c8).stored P5s d9 p9 m9 c9)
              have j9 := hid ((i9.stored P4 d8 p8 m8 c8).stored P5s d9 p9 m9 c9)
              have bz := hid (Below.stored (Below.stored (bw'.out.trans (HBz.out.mono (B' := w.heap.size) (by omega))) (g := w.heap.size + 1 + 1) (by omega) (.bool d8) (.slice p8 m8 c8)) (g := w.heap.size + 1 + 1 + 1) (by omega) (.bool d9) (.slice p9 m9 c9))
              clear P4 P5 P5s i8 i9 e8 e9 C8 C9
              go_wp2_with fail
              go_region
              go_wp2_with fail
              exact bodyPost_ret (v := .tuple #[.agg #[.bool d8, .slice p8 m8 c8], .agg #[.bool d9, .slice p9 m9 c9]])
                (by simp [results, Tryz.results45, go_sem, q0, q1, r0, r1]) rfl
                ⟨_, _, rfl, j8.out, j9.out, bz.out.drew⟩
end Go.Proofs.YtnfohbpgnbfmeaaGreatDoor
/- elenchusref01.Gcd. -/
namespace Go.Proofs.YtnfohbpgnbfmeaaGreatDoor
open Go.RowKit Big

theorem len8 {vs : List Value} (h : vs.length = 8) : ∃ a b c d e f g h, vs = [a, b, c, d, e, f, g, h] := by
  match vs, h with
  | [a, b, c, d, e, f, g, h], _ => exact ⟨a, b, c, d, e, f, g, h, rfl⟩

set_option maxRecDepth 100000 in
set_option maxHeartbeats 6400000 in
theorem RGcd_any (v0 v1 : Value) (a b : Int) (w : World) (h0 : RawAt w v0 a) (h1 : RawAt w v1 b) (ha : sz W a.natAbs ≤ 549755813888) (hbs : sz W b.natAbs ≤ 549755813888) :
    Calls Tryz.prog 26 #[v0, v1] w (RInt (Nat.gcd a.natAbs b.natAbs : Nat) w) := by
  obtain ⟨n0, s0, l0, rfl, a0, b0, c0, rfl⟩ := h0
  obtain ⟨n1, s1, l1, rfl, a1, b1, c1, rfl⟩ := h1
  rw [sg_natAbs] at ha hbs ⊢
  rw [sg_natAbs]
  have g0 : ∀ W', Below w.heap.size w W' → Calls Tryz.prog 40 #[.bool false, s0] W' (RInt (val W l0 : Nat) W') := fun W' hb => by
    have := Whole_any false s0 l0 W' (a0.below hb) b0 (by omega)
    simpa [sg] using this
  have g1 : ∀ W', Below w.heap.size w W' → Calls Tryz.prog 40 #[.bool false, s1] W' (RInt (val W l1 : Nat) W') := fun W' hb => by
    have := Whole_any false s1 l1 W' (a1.below hb) b1 (by omega)
    simpa [sg] using this
  have G0 := hid g0; have G1 := hid g1
  clear g0 g1 a0 a1 b0 b1 c0 c1
  generalize val W l0 = x at *
  generalize val W l1 = y at *
  obtain ⟨G, hG⟩ : ∃ G, G = Nat.gcd x y := ⟨_, rfl⟩
  rw [← hG]
  have HG := hid hG
  clear hG
  go_enter Tryz.func26, Tryz.ntmps26
  go_wp2_with fail
  generalize hW : World.alloc (World.alloc (World.alloc w _) _) _ = W3
  have bw : Below w.heap.size w W3 := by rw [← hW]; exact ((below1 _ _).alloc (by simp) _).alloc (by simp; omega) _
  have hp : Pair W3 (w.heap.size + 1 + 1) 35 := by rw [← hW]; exact Pair.new2 ..
  have tw : Two W3 w.heap.size (.bool n0) s0 (.bool n1) s1 := by rw [← hW]; exact (Two.new w _ _ _ _ _).below (below1 _ _)
  have z3 : w.heap.size + 3 ≤ W3.heap.size := by rw [← hW]; simp
  have bw' := hid bw; have HT := hid tw; have Hp := hid hp
  clear hW bw tw hp
  have HS : Hid (∀ w', Below W3.heap.size W3 w' → w'.cell? ⟨w.heap.size, 1, none⟩ = some s0 ∧ w'.cell? ⟨w.heap.size + 1, 1, none⟩ = some s1) := by
    intro w' hb
    have ht := HT.out.below hb
    exact ⟨ht.c01, ht.c11⟩
  have HBW : Hid (∀ w', Below W3.heap.size W3 w' → Below w.heap.size w w') := fun w' hb => bw'.out.trans (hb.mono (by omega))
  go_upto_region 1 with fail
  go_cut [5, 6] (fun s5 s6 wx => ∃ g5 g6, s5 = .pointer (some ⟨g5, 0, none⟩) ∧ s6 = .pointer (some ⟨g6, 0, none⟩) ∧ g5 ≠ g6 ∧ W3.heap.size ≤ g5 ∧ W3.heap.size ≤ g6 ∧ IntCell wx g5 (x : Nat) ∧ IntCell wx g6 (y : Nat) ∧ Below W3.heap.size W3 wx)
  case first =>
    rename_i Jc Kc hJc hKc
    refine wp_region_facts (w0 := W3) 8 2 [9, 10, 11, 12, 13, 14, 5, 6] [undef, undef, undef, undef, undef, undef, undef, undef]
      (fun i => match i with
        | 0 => eqF (.pointer (some ⟨w.heap.size, 1, none⟩)) | 1 => eqF s0 | 2 => intF (x : Nat) | 3 => eqF (.pointer (some ⟨w.heap.size + 1, 1, none⟩)) | 4 => eqF s1 | 5 => intF (y : Nat)
        | 6 => varF W3.heap.size | _ => varF W3.heap.size) [6, 7] (by kernel_rfl) (by kernel_rfl) (by kernel_rfl) (by kernel_rfl) (by decide) rfl (by kernel_rfl) rfl (by simp) ?he ?_ ?_ ?_
    case he => simp only [putAll, Act.put, List.setIfInBounds_toArray, List.set_cons_zero, List.set_cons_succ]
    · intro i hi v w' h
      simp only [List.mem_cons, List.not_mem_nil, or_false] at hi
      rcases hi with rfl | rfl
      · obtain ⟨g, hg, hp, -⟩ := (show VarAt w' W3.heap.size v from h); exact ⟨g, hg, hp.lt⟩
      · obtain ⟨g, hg, hp, -⟩ := (show VarAt w' W3.heap.size v from h); exact ⟨g, hg, hp.lt⟩
    · intro i o hi ho vs wx hvl hb hdep K hK
      have hvs := len8 hvl
      obtain ⟨s9, s10, s11, s12, s13, s14, s5, s6, rfl⟩ := hvs
      have hk := HS.out wx hb
      clear hvl
      go_split_ands
      rcases i with _ | _ | _ | _ | _ | _ | _ | _ | i
      all_goals (simp only [List.getElem?_toArray, List.getElem?_cons_zero, List.getElem?_cons_succ, Option.some.injEq] at ho)
      all_goals try (subst ho)
      all_goals try simp only [putAll, Act.put, List.setIfInBounds_toArray, List.set_cons_zero, List.set_cons_succ]
      · go_simp
        have hK' := hK.out
        simp only [putAll, Act.put, List.setIfInBounds_toArray, List.set_cons_zero, List.set_cons_succ] at hK'
        exact hK' _ _ rfl (Below.refl _ _) (by simp)
      · have d0 : s9 = _ := hdep ⟨0, .data⟩ (by simp) rfl
        subst d0
        go_simp
        have hK' := hK.out
        simp only [putAll, Act.put, List.setIfInBounds_toArray, List.set_cons_zero, List.set_cons_succ] at hK'
        exact hK' _ _ rfl (Below.refl _ _) (by simp)
      · have d1 : s10 = _ := hdep ⟨1, .data⟩ (by simp) rfl
        subst d1
        go_simp
        refine (G0.out _ (HBW.out _ hb)).mono ?_
        rintro e wy ⟨vy, rfl, iy, hby⟩
        have hsh := iy.shape
        obtain ⟨p5, n5, c5, rfl, iy⟩ := hsh
        go_wp2_with fail
        have hK' := hK.out
        simp only [putAll, Act.put, List.setIfInBounds_toArray, List.set_cons_zero, List.set_cons_succ] at hK'
        exact hK' _ _ ⟨_, _, _, _, rfl, iy⟩ hby (by simp)
      · go_simp
        have hK' := hK.out
        simp only [putAll, Act.put, List.setIfInBounds_toArray, List.set_cons_zero, List.set_cons_succ] at hK'
        exact hK' _ _ rfl (Below.refl _ _) (by simp)
      · have d3 : s12 = _ := hdep ⟨3, .data⟩ (by simp) rfl
        subst d3
        go_simp
        have hK' := hK.out
        simp only [putAll, Act.put, List.setIfInBounds_toArray, List.set_cons_zero, List.set_cons_succ] at hK'
        exact hK' _ _ rfl (Below.refl _ _) (by simp)
      · have d4 : s13 = _ := hdep ⟨4, .data⟩ (by simp) rfl
        subst d4
        go_simp
        refine (G1.out _ (HBW.out _ hb)).mono ?_
        rintro e wy ⟨vy, rfl, iy, hby⟩
        have hsh := iy.shape
        obtain ⟨p5, n5, c5, rfl, iy⟩ := hsh
        go_wp2_with fail
        have hK' := hK.out
        simp only [putAll, Act.put, List.setIfInBounds_toArray, List.set_cons_zero, List.set_cons_succ] at hK'
        exact hK' _ _ ⟨_, _, _, _, rfl, iy⟩ hby (by simp)
      · go_simp
        have hK' := hK.out
        simp only [putAll, Act.put, List.setIfInBounds_toArray, List.set_cons_zero, List.set_cons_succ] at hK'
        exact hK' _ _ ⟨_, rfl, Pair.new .., hb.size⟩ (below1 _ _) (fun _ => rfl)
      · go_simp
        have hK' := hK.out
        simp only [putAll, Act.put, List.setIfInBounds_toArray, List.set_cons_zero, List.set_cons_succ] at hK'
        exact hK' _ _ ⟨_, rfl, Pair.new .., hb.size⟩ (below1 _ _) (fun _ => rfl)
      · omega
    · intro vs wx hvl hb hf hdist
      have hvs := len8 hvl
      obtain ⟨s9, s10, s11, s12, s13, s14, s5, s6, rfl⟩ := hvs
      have f7 : (intF (x : Nat)).P s11 wx := hf 2 (by decide)
      have f12 : (intF (y : Nat)).P s14 wx := hf 5 (by decide)
      have f13 : VarAt wx W3.heap.size s5 := hf 6 (by decide)
      have f14 : VarAt wx W3.heap.size s6 := hf 7 (by decide)
      have hne : s5 ≠ s6 := hdist 6 (by simp) 7 (by simp) (by decide)
      obtain ⟨d7, p7, m7, c7, rfl, i7⟩ := f7
      obtain ⟨d12, p12, m12, c12, rfl, i12⟩ := f12
      obtain ⟨g8, rfl, hp8, hB8⟩ := f13
      obtain ⟨g9, rfl, hp9, hB9⟩ := f14
      have hgne : g8 ≠ g9 := fun e => hne (by rw [e])
      have c8 := hp8.cells
      obtain ⟨_, _, q0, q1, q2, q3⟩ := c8
      clear hf hdist hvl hne
      refine wpAny_one (i := 8) (by kernel_rfl) rfl ?_
      intro K hK
      simp only [putAll, Act.put, List.setIfInBounds_toArray, List.set_cons_zero, List.set_cons_succ]
      go_simp
      have hK' := hK.out
      apply hK'
      clear hK hK'
      have x8 := IntCell.put hp8 i7
      have hp9' := hp9.apart hgne.symm (.bool d7) (.slice p7 m7 c7)
      have i12' := i12.stored hp8 d7 p7 m7 c7
      have hb' := Below.stored hb hB8 (.bool d7) (.slice p7 m7 c7)
      clear q0 q1 q2 q3 hp8 hp9 i7 i12
      generalize ((wx.setCell ⟨g8, 0, none⟩ (.bool d7)).setCell ⟨g8, 1, none⟩ (.slice p7 m7 c7)) = wy at *
      have c9 := hp9'.cells
      obtain ⟨_, _, q0, q1, q2, q3⟩ := c9
      refine wpAny_one (i := 9) (by kernel_rfl) rfl ?_
      intro K hK
      go_simp
      have hK' := hK.out
      apply hK'
      clear hK hK'
      refine wpAny_done (by kernel_rfl) ?_ _
      refine hKc _ _ (Met.intro (hJc _ _ ?_))
      (repeat apply Exists.intro)
      exact ⟨⟨g8, g9, rfl, rfl, hgne, hB8, hB9, x8.apart hp9' hgne .., IntCell.put hp9' i12', Below.stored hb' hB9 ..⟩, rfl⟩
  case rest =>
    obtain ⟨g5, g6, rfl, rfl, hgne, hB5, hB6, C5, C6, hbc⟩ := hcut
    have hgc : Hid (Nat.gcd x y = G) := HG.out.symm
    have HBc := hid hbc
    clear hbc HG HS HBW HT G0 G1
    go_wp2_with fail
    go_loopg [] y (fun gk wr => ∃ p : Nat, IntCell wr g5 (p : Nat) ∧ IntCell wr g6 (gk : Nat) ∧ sz W p ≤ 549755813888 ∧ sz W gk ≤ 549755813888 ∧ Hid (Nat.gcd p gk = G) ∧ Hid (Below W3.heap.size W3 wr))
    case atStart => exact ⟨x, C5, C6, ha, hbs, hgc.out, HBc.out⟩
    case round =>
      obtain ⟨p, D5, D6, hp, hq, hgcd, HBr⟩ := hrel
      have t6 := D6
      obtain ⟨d6, p6, m6, c6, e6, i6⟩ := t6
      have e6' := two_cells e6
      obtain ⟨x60, x61, -, -⟩ := e6'
      by_cases h0 : gk = 0
      · have hsg := RSign_any _ _ wr (i6.raw (by show sz W gk ≤ _; omega))
        rw [h0] at hsg
        have hsg' : Hid (Calls Tryz.prog 20 #[.agg #[.bool d6, .slice p6 m6 c6]] wr (RNum .i64 0 wr)) := hsg
        have hres : Hid (p = G) := by have := hgcd.out; rw [h0, Nat.gcd_zero_right] at this; exact this
        clear hsg e6 i6 h0 hgcd
        go_wp2_with fail
        refine hsg'.out.mono ?_
        rintro e wz ⟨rfl, hbz⟩
        have HBz := hid (Below.go hbz HBr.out)
        have t5 := D5.below hbz
        obtain ⟨d5, p5, m5, c5, e5, i5⟩ := t5
        have e5' := two_cells e5
        obtain ⟨x50, x51, -, -⟩ := e5'
        have P4 := Hp.out.below HBz.out
        have P4' := P4.cells
        obtain ⟨_, _, q0, q1, q2, q3⟩ := P4'
        rw [hres.out] at i5
        have j5 := hid (i5.stored P4 d5 p5 m5 c5)
        have bz := hid (Below.stored (bw'.out.trans (HBz.out.mono (B' := w.heap.size) (by omega))) (g := w.heap.size + 1 + 1) (by omega) (.bool d5) (.slice p5 m5 c5))
        clear hbz x60 x61 e5 i5 P4
        go_wp2_with fail
        exact bodyPost_ret (v := .agg #[.bool d5, .slice p5 m5 c5]) (by simp [results, Tryz.results26, go_sem, q0, q1]) rfl ⟨_, rfl, j5.out, bz.out⟩
      · have hsg := RSign_any _ _ wr (i6.raw (by show sz W gk ≤ _; omega))
        rw [Int.sign_eq_one_of_pos (show (0 : Int) < (gk : Int) by omega)] at hsg
        have Hsg := hid hsg
        have hg' := hid ((gcd_step p gk).trans hgcd.out)
        have hlt : p % gk < gk := Nat.mod_lt _ (by omega)
        have hsz : sz W (p % gk) ≤ 549755813888 := Nat.le_trans (sz_mono W2 (Nat.le_of_lt hlt)) hq
        clear hsg e6 hgcd
        go_wp2_with fail
        refine Hsg.out.mono ?_
        rintro e wa ⟨rfl, hba⟩
        have HBa := hid (Below.go hba HBr.out)
        have A5 := D5.below hba
        have A6 := D6.below hba
        have i6' := i6.below hba
        have t5 := A5
        obtain ⟨d5, p5, m5, c5, e5, i5⟩ := t5
        have e5' := two_cells e5
        obtain ⟨x50, x51, -, -⟩ := e5'
        have c6' := (hba.cell (p := ⟨g6, 0, none⟩) (World.block_lt_of_cell? wr _ x60)).trans x60
        have c6'' := (hba.cell (p := ⟨g6, 1, none⟩) (World.block_lt_of_cell? wr _ x61)).trans x61
        have hdiv := RDiv_any _ _ _ _ wa (i5.raw (by show sz W p ≤ _; omega)) (i6'.raw (by show sz W gk ≤ _; omega)) (show ((gk : Nat) : Int) ≠ 0 by omega) hp hq
        have Hdiv := hid hdiv
        clear hba x60 x61 i6 i6' e5 hdiv D5 D6 Hsg i5
        go_wp2_with fail
        refine Hdiv.out.mono ?_
        rintro e wb ⟨vq, vr, rfl, hqq, hrr, hbb⟩
        have hqq := hqq.shape
        obtain ⟨pq, nq, cq, rfl, -⟩ := hqq
        have hrr := hrr.shape
        obtain ⟨pr, nr, cr, rfl, hrr⟩ := hrr
        have hmod : ((p : Int) % (gk : Int)) = ((p % gk : Nat) : Int) := (Int.natCast_emod p gk).symm
        rw [hmod] at hrr ⊢
        obtain ⟨dr, hdr⟩ : ∃ d, d = decide (((p % gk : Nat) : Int) < 0) := ⟨_, rfl⟩
        rw [← hdr] at hrr ⊢
        obtain ⟨dq, hdq⟩ : ∃ d, d = decide ((p : Int) / (gk : Int) < 0) := ⟨_, rfl⟩
        rw [← hdq]
        have HBb := hid (Below.go hbb HBa.out)
        have B5 := A5.below hbb
        have B6 := A6.below hbb
        clear hbb hdr hdq hmod A5 A6 x50 x51 c6' c6''
        go_upto_region 4 with fail
        generalize hW : World.alloc (World.alloc wb _) _ = wc4
        have X4 : Below wb.heap.size wb wc4 ∧ Two wc4 wb.heap.size (.bool dq) (.slice pq nq cq) (.bool dr) (.slice pr nr cr) := by
          rw [← hW]; exact ⟨((Below.refl _ _).alloc (Nat.le_refl _) _).alloc (by simp) _, Two.new ..⟩
        have HB4 := hid (Below.go X4.1 HBb.out)
        have E5 := B5.below X4.1
        have E6 := B6.below X4.1
        have hr4 := hrr.below X4.1
        have hr40 := X4.2.c10
        have hr41 := X4.2.c11
        have hl5 := B5.pair.lt
        have hl6 := B6.pair.lt
        clear hW X4 hrr B5 B6
        obtain ⟨gr, hgr⟩ : ∃ g, g = wb.heap.size + 1 := ⟨_, rfl⟩
        rw [← hgr] at hr40 hr41 ⊢
        have hgr5 : gr ≠ g5 := by omega
        have hgr6 : gr ≠ g6 := by omega
        clear hgr hl5 hl6
        have t6 := E6
        obtain ⟨d7, p7, m7, c7, e7, i7⟩ := t6
        have e7' := two_cells e7
        obtain ⟨x70, x71, -, -⟩ := e7'
        have P5 := E5.pair
        have P5' := P5.cells
        obtain ⟨_, _, q0, q1, q2, q3⟩ := P5'
        have F5 := IntCell.put P5 i7
        have F6 := E6.apart P5 hgne.symm d7 p7 m7 c7
        have fr := hr4.stored P5 d7 p7 m7 c7
        have fr0 := (cell_stored wc4 (p := ⟨gr, 0, none⟩) hgr5 (.bool d7) (.slice p7 m7 c7)).trans hr40
        have fr1 := (cell_stored wc4 (p := ⟨gr, 1, none⟩) hgr5 (.bool d7) (.slice p7 m7 c7)).trans hr41
        have HB5' := hid (Below.stored HB4.out hB5 (.bool d7) (.slice p7 m7 c7))
        clear e7 i7 hr4 hr40 hr41 E5 E6 P5
        go_upto_region 5 with fail
        generalize ((wc4.setCell ⟨g5, 0, none⟩ (.bool d7)).setCell ⟨g5, 1, none⟩ (.slice p7 m7 c7)) = w5 at *
        clear q0 q1 q2 q3 x70 x71
        have P6 := F6.pair
        have P6' := P6.cells
        obtain ⟨_, _, q0, q1, q2, q3⟩ := P6'
        have K6 := IntCell.put P6 fr
        have K5 := F5.apart P6 hgne dr pr nr cr
        have HB6 := hid (Below.stored HB5'.out hB6 (.bool dr) (.slice pr nr cr))
        clear P6 F5 F6 fr
        go_wp2_with fail
        go_roundg (p % gk)
        case measure => exact hlt
        case rel => exact ⟨gk, K5, K6, hq, hsz, hg'.out, HB6.out⟩
end Go.Proofs.YtnfohbpgnbfmeaaGreatDoor
