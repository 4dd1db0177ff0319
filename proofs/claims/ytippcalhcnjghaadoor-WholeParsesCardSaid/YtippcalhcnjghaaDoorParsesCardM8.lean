/- Texts put together: RefParts, Facts, Div. -/
import Derived.Test.YtippcalhcnjghaaDoorParsesCardM7
/- elenchusref01.parts: quotient and rest, bit by bit. -/
namespace Go.Proofs.YtippcalhcnjghaaDoor
open Go.RowKit Big

/-- one bit more -/
theorem bit_step {pre b t r q h bit : Nat} (hb : 0 < b) (hr : r = pre % b) (hq : q * h + t = pre / b) (hbit : bit ≤ 1) :
    (2 * r + bit < b → 2 * r + bit = (2 * pre + bit) % b ∧ q * (2 * h) + 2 * t = (2 * pre + bit) / b) ∧
    (b ≤ 2 * r + bit → 2 * r + bit - b = (2 * pre + bit) % b ∧ q * (2 * h) + (2 * t + 1) = (2 * pre + bit) / b) := by
  have e := Nat.div_add_mod pre b
  rw [← hr, ← hq] at e
  have hrb : r < b := by rw [hr]; exact Nat.mod_lt _ hb
  have e2 : q * (2 * h) = 2 * (q * h) := Nat.mul_left_comm ..
  have e3 : b * (2 * (q * h + t)) = 2 * (b * (q * h + t)) := Nat.mul_left_comm ..
  refine ⟨fun hlt => ?_, fun hge => ?_⟩
  · have e4 : 2 * pre + bit = b * (2 * (q * h + t)) + (2 * r + bit) := by omega
    rw [e4, Nat.mul_add_mod, Nat.mod_eq_of_lt hlt, Nat.mul_add_div hb, Nat.div_eq_of_lt hlt, e2]
    exact ⟨rfl, by omega⟩
  · have e4 : 2 * pre + bit = b * (2 * (q * h + t) + 1) + (2 * r + bit - b) := by rw [Nat.mul_add]; omega
    have hlt : 2 * r + bit - b < b := by omega
    rw [e4, Nat.mul_add_mod, Nat.mod_eq_of_lt hlt, Nat.mul_add_div hb, Nat.div_eq_of_lt hlt, e2]
    exact ⟨rfl, by omega⟩
theorem bit_pre (P x k : Nat) (hk : k ≤ 15) : 2 * (P * 2 ^ (16 - (k + 1)) + x / 2 ^ (k + 1)) + x / 2 ^ k % 2 = P * 2 ^ (16 - k) + x / 2 ^ k := by
  have e : x / 2 ^ (k + 1) = x / 2 ^ k / 2 := by rw [Nat.pow_succ, Nat.div_div_eq_div_mul]
  have e2 : 2 ^ (16 - k) = 2 * 2 ^ (16 - (k + 1)) := by
    rw [show 16 - k = (16 - (k + 1)) + 1 by omega, Nat.pow_succ, Nat.mul_comm]
  rw [e, e2, Nat.mul_left_comm]
  omega
theorem digit_lt {q t P b h x k : Nat} (hb : 0 < b) (hq : q = P / b) (h1 : q * h + t = (P * h + x / 2 ^ k) / b) (hx : x / 2 ^ k < h) : t < h := by
  have e : P < (q + 1) * b := by rw [hq, Nat.mul_comm]; exact Nat.lt_mul_div_succ P hb
  have e1 : P * h + x / 2 ^ k < (q + 1) * h * b := by
    have : (P + 1) * h ≤ (q + 1) * b * h := Nat.mul_le_mul_right _ e
    rw [Nat.add_mul] at this
    have e2 : (q + 1) * b * h = (q + 1) * h * b := Nat.mul_right_comm ..
    omega
  have e3 : (P * h + x / 2 ^ k) / b < (q + 1) * h := by rw [Nat.div_lt_iff_lt_mul hb]; exact e1
  rw [← h1, Nat.add_mul] at e3
  omega
theorem bits_left (x k : Nat) (hx : x < 65536) (hk : k ≤ 16) : x / 2 ^ k < 2 ^ (16 - k) := by
  rw [Nat.div_lt_iff_lt_mul (Nat.two_pow_pos k), ← Nat.pow_add, show 16 - k + k = 16 by omega]; exact hx

def RParts (q r : Nat) (w : World) (e : Ending) (w' : World) : Prop := ∃ v v', e = .returned (.tuple #[v, v']) ∧ At w' .i64 v (dig D q) ∧ At w' .i64 v' (dig D r) ∧ Below w.heap.size w w'

theorem wrap64_bit (z p : Nat) (hz : z ≤ 65536) (hp : p ≤ 65536) : wrap64 ((z : Int) + wrap64 ((p : Nat) : Int)) = ((z + p : Nat) : Int) := by
  have e : wrap64 ((p : Nat) : Int) = (p : Int) := by unfold wrap64; omega
  rw [e]
  unfold wrap64; omega
set_option maxRecDepth 100000 in
set_option maxHeartbeats 6400000 in
theorem rparts_any (v0 v1 : Value) (l0 : List Nat) (m : Nat) (w : World) (h0 : At w .i64 v0 l0) (h1 : At w .i64 v1 (dig D m)) (s0 : Small D l0) (hm : 0 < m)
    (hl0 : l0.length ≤ 4398046511104) (hl1 : sz D m ≤ 2199023255552) : Calls Tryd.prog 54 #[v0, v1] w (RParts (val D l0 / m) (val D l0 % m) w) := by
  have hadd : ∀ (r : Nat) (W : World) (u : Value), At W .i64 u (dig D r) → r < m → Calls Tryd.prog 44 #[u, u] W (RAt .i64 (dig D (r + r)) W) := fun r W u hu hr => by
    have hz : sz D r ≤ 2199023255552 := Nat.le_trans (sz_mono D2 (Nat.le_of_lt hr)) hl1
    have := rplus_any u u (dig D r) (dig D r) W hu hu (small_dig D2 r) (small_dig D2 r) (by show sz D r ≤ _; omega) (by show sz D r ≤ _; omega)
    rwa [val_dig D2] at this
  have hadd2 : ∀ (r b : Nat) (W : World) (u u' : Value), At W .i64 u (dig D (r + r)) → At W .i64 u' (dig D b) → r < m → b ≤ 1 → Calls Tryd.prog 44 #[u, u'] W (RAt .i64 (dig D (r + r + b)) W) := fun r b W u u' hu hu' hr hb => by
    have hz : sz D r ≤ 2199023255552 := Nat.le_trans (sz_mono D2 (Nat.le_of_lt hr)) hl1
    have hz2 : sz D (r + r) ≤ 2199023255552 + 1 := sz_add D2 hz hz
    have hz3 : sz D b ≤ 1 := sz_le_of_lt D2 (by unfold D; omega)
    have := rplus_any u u' (dig D (r + r)) (dig D b) W hu hu' (small_dig D2 _) (small_dig D2 _) (by show sz D (r + r) ≤ _; omega) (by show sz D b ≤ _; omega)
    rwa [val_dig D2, val_dig D2] at this
  have hcmp : ∀ (r : Nat) (W : World) (u : Value), At W .i64 u (dig D r) → Below w.heap.size w W → Calls Tryd.prog 72 #[u, v1] W (ROrd (ord r m) W) := fun r W u hu hb => rcompare_any u v1 r m W hu (h1.below hb)
  have hless : ∀ (r : Nat) (W : World) (u : Value), At W .i64 u (dig D r) → Below w.heap.size w W → m ≤ r → r < m + m → Calls Tryd.prog 47 #[u, v1] W (ROwn 3 .i64 (dig D (r - m)) W) := fun r W u hu hb hmr hr => by
    have hz : sz D r ≤ 2199023255552 + 1 := Nat.le_trans (sz_mono D2 (Nat.le_of_lt hr)) (sz_add D2 hl1 hl1)
    have := rless_own u v1 (dig D r) (dig D m) W hu (h1.below hb) (small_dig D2 r) (small_dig D2 m) (by show sz D r ≤ _; omega) (sz_mono D2 hmr) (by rw [val_dig D2, val_dig D2]; exact hmr)
    rwa [val_dig D2, val_dig D2] at this
  have Hadd := hid hadd; have Hadd2 := hid hadd2; have Hcmp := hid hcmp; have Hless := hid hless
  clear hadd hadd2 hcmp hless
  obtain ⟨p0, c0, rfl, a1, a2, a3, a4⟩ := h0
  unfold maxLen at a2
  clear h1 hl1
  go_enter Tryd.func54, Tryd.ntmps54
  go_wp2_with (first
    | (at_make; refine wpList_full_at rfl _ _ 53 rfl elemInts w.heap.size _ _ _ _ l0.length rfl rfl (by first | rfl | omega | (simp; done)) (by first | rfl | omega | (simp; done)) (by omega) (by simp [maxLen]; omega) (Nat.le_refl _) ?_; intro vo w1 ho hb1 hs1 hvo; subst hvo))
  have hstart : Hid (val D ((List.replicate l0.length 0).drop l0.length) = val D (l0.drop l0.length) / m) := by unfold Hid; simp [val]
  have hstart2 : Hid (val D (l0.drop l0.length) % m = 0) := by unfold Hid; simp [val]
  go_loopw [7, 8] (fun rest i wr => ∃ (k : Nat) (Z : List Nat), k ≤ l0.length ∧ i = .int .i64 ((k : Int) - 1) ∧ At wr .i64 rest (dig D (val D (l0.drop k) % m)) ∧ Own wr w.heap.size 3 .i64 (.slice (some ⟨w.heap.size, 0, none⟩) l0.length l0.length) Z ∧ Hid (Z.length = l0.length) ∧ Small D Z ∧
      Hid (val D (Z.drop k) = val D (l0.drop k) / m) ∧ Hid (∀ j, j < k → Z[j]?.getD 0 = 0) ∧ Below w.heap.size w wr ∧ w.heap.size ≤ wr.heap.size) (fun _ i _ => (intOf i + 1).toNat)
  case atStart => exact ⟨l0.length, List.replicate l0.length 0, Nat.le_refl _, rfl, by rw [hstart2.out]; exact At.nil _ _, ho, by simp [Hid], small_zeros (by decide) _, hstart.out, by intro j _; simp [List.getElem?_replicate]; split <;> rfl, hb1, hs1⟩
  case round =>
    obtain ⟨k, Z, hk, rfl, hrest, hown, hZ, hsZ, hv, hz, hbel, hsz⟩ := hrel
    by_cases hk0 : 0 < k
    · obtain ⟨k, rfl⟩ : ∃ k', k = k' + 1 := ⟨k - 1, by omega⟩
      obtain ⟨b, off, rfl, hbb, hcell⟩ := a4 (by omega)
      have x0 := small_get s0 k (by omega)
      obtain ⟨x, hx⟩ : ∃ x, x = l0[k]'(by omega) := ⟨_, rfl⟩
      have hcx := hcell k (by omega)
      rw [← hx] at x0 hcx
      have hdrop := val_drop_succ D l0 k (by omega)
      rw [← hx] at hdrop
      have Hdrop := hid hdrop; have Hcx := hid hcx; clear hx hcell a4 hcx hdrop
      unfold D at x0
      obtain ⟨P, hP⟩ : ∃ P, P = val D (l0.drop (k + 1)) := ⟨_, rfl⟩
      rw [← hP] at Hdrop hrest hv
      clear hP
      obtain ⟨q, hq⟩ : ∃ q, q = val D (Z.drop (k + 1)) := ⟨_, rfl⟩
      have Hq := hid hq
      rw [← hq] at hv
      clear hq
      have hkZ : k < Z.length := by rw [hZ.out]; omega
      have zk : Z[k] = 0 := by have := hz.out k (by omega); simpa [hkZ] using this
      have hset0 : Z.set k (2 ^ 16 * 0) = Z := by rw [Nat.mul_zero]; rw [← zk]; exact List.set_getElem_self ..
      have hpre : P * 2 ^ (16 - 16) + x / 2 ^ 16 = P := by rw [show 2 ^ 16 = 65536 from rfl, Nat.div_eq_of_lt x0]; simp
      have hst1 : Hid (q * 2 ^ (16 - 16) + 0 = (P * 2 ^ (16 - 16) + x / 2 ^ 16) / m) := by unfold Hid; rw [hpre, ← hv.out]; simp
      have HZk := hid hkZ
      have Hset0 := hid hset0; have Hpre := hid hpre
      clear zk hkZ hset0 hpre
      go_wp2_with fail
      rw [show (((k + 1 : Nat) : Int) - 1) = (k : Int) by omega]
      go_loopw [7, 9] (fun rest j wq => ∃ (kk t : Nat), kk ≤ 16 ∧ j = .int .i64 ((kk : Int) - 1) ∧ At wq .i64 rest (dig D ((P * 2 ^ (16 - kk) + x / 2 ^ kk) % m)) ∧ Own wq w.heap.size 3 .i64 (.slice (some ⟨w.heap.size, 0, none⟩) l0.length l0.length) (Z.set k (2 ^ kk * t)) ∧
        Hid (q * 2 ^ (16 - kk) + t = (P * 2 ^ (16 - kk) + x / 2 ^ kk) / m) ∧ Below w.heap.size w wq ∧ w.heap.size ≤ wq.heap.size) (fun _ j _ => (intOf j + 1).toNat)
      case atStart => exact ⟨16, 0, by omega, rfl, by rw [Hpre.out]; exact hrest, by rw [Hset0.out]; exact hown, hst1, hbel, hsz⟩
      case round =>
        obtain ⟨kk, t, hkk, rfl, hrest', hown', ht, hbel', hsz'⟩ := hrel
        by_cases hk1 : 0 < kk
        · obtain ⟨kk, rfl⟩ : ∃ k', kk = k' + 1 := ⟨kk - 1, by omega⟩
          have e0 : wr.cell? ⟨b, off + k, none⟩ = some (.int .i64 (x : Nat)) := (hbel'.cell (p := ⟨b, off + k, none⟩) hbb).trans Hcx.out
          obtain ⟨r, hr⟩ : ∃ r, r = (P * 2 ^ (16 - (kk + 1)) + x / 2 ^ (kk + 1)) % m := ⟨_, rfl⟩
          have hrm : r < m := by rw [hr]; exact Nat.mod_lt _ hm
          rw [← hr] at hrest'
          have Hr := hid hr
          clear hr
          go_wp2_with fail
          refine (Hadd.out r _ _ hrest' hrm).mono ?_
          rintro e w2 ⟨u2, rfl, hu2, hb2⟩
          have e2 : w2.cell? ⟨b, off + k, none⟩ = some (.int .i64 (x : Nat)) := (hb2.cell (p := ⟨b, off + k, none⟩) (Nat.lt_of_lt_of_le hbb hbel'.size)).trans e0
          have own2 := hown'.kept hb2
          have bel2 := Below.go hb2 hbel'
          clear e0 hb2 hown' hbel' hrest'
          obtain ⟨bit, hbit⟩ : ∃ b, b = x / 2 ^ kk % 2 := ⟨_, rfl⟩
          have hb1' : bit ≤ 1 := by omega
          have hbi : ((x : Int) / 2 ^ kk).tmod 2 = (bit : Int) := by
            have e : ((x : Int) / 2 ^ kk) = ((x / 2 ^ kk : Nat) : Int) := by simp
            rw [e, hbit]; rfl
          have Hbit := hid hbit; have Hbi := hid hbi
          clear hbit hbi
          go_wp2_with fail
          rw [Hbi.out]
          have hone := At.one w2 .i64 bit 3
          have hstr : strip [bit] = dig D bit := by
            have := strip_dig D2 (small_cons (show bit < D by unfold D; omega) (small_nil D))
            simpa [val] using this
          have htr := rtrim_any _ [bit] _ hone
          rw [hstr] at htr
          have Htr := hid htr
          clear hone hstr htr
          have b3 := below1 w2 (.cells #[.int .i64 (bit : Nat)] 3)
          have hu3 := hu2.below b3
          have e3 := (b3.cell (p := ⟨b, off + k, none⟩) (Nat.lt_of_lt_of_le hbb bel2.size)).trans e2
          have own3 := own2.kept b3
          have bel3 := Below.go b3 bel2
          clear b3 hu2 e2 own2 bel2
          generalize World.alloc w2 _ = w3 at *
          refine Htr.out.mono ?_
          rintro e w3' ⟨u4, rfl, hu4, rfl⟩
          go_wp2_with fail
          refine (Hadd2.out r bit _ _ _ hu3 hu4 hrm hb1').mono ?_
          rintro e w5 ⟨u5, rfl, hu5, hb5⟩
          have e5 := (hb5.cell (p := ⟨b, off + k, none⟩) (Nat.lt_of_lt_of_le hbb bel3.size)).trans e3
          have own5 := own3.kept hb5
          have bel5 := Below.go hb5 bel3
          clear hb5 own3 bel3 e3 hu3 hu4 Htr
          go_wp2_with fail
          have hc := Hcmp.out _ _ _ hu5 bel5
          have hbs := bit_step (pre := P * 2 ^ (16 - (kk + 1)) + x / 2 ^ (kk + 1)) (h := 2 ^ (16 - (kk + 1))) (q := q) (t := t) (bit := bit) hm Hr.out ht.out hb1'
          have h2h : 2 * 2 ^ (16 - (kk + 1)) = 2 ^ (16 - kk) := by
            rw [show 16 - kk = (16 - (kk + 1)) + 1 by omega, Nat.pow_succ, Nat.mul_comm]
          have hpre' := bit_pre P x kk (by omega)
          rw [← Hbit.out] at hpre'
          rw [hpre', h2h, show 2 * r + bit = r + r + bit by omega] at hbs
          have htl : t < 2 ^ (16 - (kk + 1)) := digit_lt hm hv.out ht.out (bits_left x (kk + 1) x0 (by omega))
          have hp2 : 2 ^ (kk + 1) * 2 ^ (16 - (kk + 1)) = 65536 := by rw [← Nat.pow_add, show kk + 1 + (16 - (kk + 1)) = 16 by omega]
          have hval : 2 ^ (kk + 1) * t + 2 ^ (kk + 1) ≤ 65536 := by
            have := Nat.mul_le_mul_left (2 ^ (kk + 1)) (show t + 1 ≤ 2 ^ (16 - (kk + 1)) from htl)
            rw [hp2, Nat.mul_add] at this; omega
          have hpw : 2 ^ (kk + 1) = 2 * 2 ^ kk := by rw [Nat.pow_succ, Nat.mul_comm]
          have hpp : 0 < 2 ^ kk := Nat.two_pow_pos kk
          have hst0 : 2 ^ (kk + 1) * t = 2 ^ kk * (2 * t) := by rw [Nat.pow_succ, Nat.mul_assoc]
          by_cases hlt : r + r + bit < m
          · rw [ord_lt (by omega)] at hc
            obtain ⟨g1, g2⟩ := hbs.1 hlt
            have Hc := hid hc; have G1 := hid g1; have G2 := hid g2; have Hst0 := hid hst0
            clear hc g1 g2 hbs h2h hpre' htl hp2 hval hpw hst0 hpp hlt
            go_wp2_with fail
            refine Hc.out.mono ?_
            rintro e w6 ⟨rfl, nn, rfl⟩
            go_wp2_with fail
            go_roundw
            case rel => exact ⟨kk, 2 * t, by omega, by go_num, by rw [← G1.out]; exact hu5.drewN nn, by rw [← Hst0.out]; exact own5.kept (below_drewN (Below.refl _ _) nn), G2.out, below_drewN bel5 nn, bel5.size⟩
            case measure => (simp [intOf] <;> omega)
          · obtain ⟨o, ho⟩ : ∃ o : Int, o = ord ((r + r + bit : Nat) : Int) m := ⟨_, rfl⟩
            have ho0 : 0 ≤ o := by
              rw [ho]
              rcases Nat.lt_or_ge m (r + r + bit) with h | h
              · rw [ord_gt (by omega)]; decide
              · rw [show r + r + bit = m by omega, ord_eq]; decide
            rw [← ho] at hc
            obtain ⟨g1, g2⟩ := hbs.2 (by omega)
            have hls := fun (W' : World) (hh : At W' .i64 u5 (dig D (r + r + bit))) (hb : Below w.heap.size w W') => Hless.out _ W' u5 hh hb (by omega) (by omega)
            have Hc := hid hc; have G1 := hid g1; have G2 := hid g2; have Hls := hid hls
            have hval' : 2 ^ (kk + 1) * t + 2 ^ kk = 2 ^ kk * (2 * t + 1) := by rw [hst0, Nat.mul_add, Nat.mul_one]
            have hv1 : 2 ^ (kk + 1) * t ≤ 65536 := by omega
            have hv2 : 2 ^ kk ≤ 65536 := by omega
            obtain ⟨z0, hz0⟩ : ∃ z, z = 2 ^ (kk + 1) * t := ⟨_, rfl⟩
            rw [← hz0] at own5 hval' hv1
            obtain ⟨pk, hpk⟩ : ∃ z, z = 2 ^ kk := ⟨_, rfl⟩
            have hv2' := hv2
            rw [← hpk] at hval' hv2'
            have Hval := hid hval'; have Hpk := hid hpk
            clear hc g1 g2 hbs h2h hpre' htl hp2 hval hpw hst0 hpp hls ho hz0 hval' hpk
            go_wp2_with fail
            refine Hc.out.mono ?_
            rintro e w6 ⟨rfl, nn, rfl⟩
            go_wp2_with fail
            refine (Hls.out _ (hu5.drewN nn) (below_drewN bel5 nn)).mono ?_
            rintro e w7 ⟨u7, rfl, hu7, hb7⟩
            have own7 := (own5.kept (below_drewN (Below.refl _ _) nn)).kept hb7
            have bel7 := Below.go hb7 (below_drewN bel5 nn)
            have hkl : k < (Z.set k z0).length := by rw [List.length_set]; exact HZk.out
            have hq5 := (own5.cell k hkl).1
            obtain ⟨cc0, f0⟩ := own7.cell k hkl
            rw [List.getElem_set_self] at cc0
            have HK := hid hkl
            clear hb7 own5 bel5 e5 hu5
            go_wp2_with fail
            have hpi : ((2 : Int) ^ kk) = ((pk : Nat) : Int) := by rw [Hpk.out]; simp
            rw [hpi, wrap64_bit z0 pk hv1 hv2']
            have hset := own7.set k (z0 + pk)
            rw [List.set_set, Hval.out, Hpk.out] at hset
            have hu8 := (hu7.other hset.2 (by intro g hg; have := hu7.row g hg; have := World.block_lt_of_cell? w5 _ hq5; simp at *; omega)).at
            rw [G1.out] at hu8
            have hvv : z0 + pk = 2 ^ kk * (2 * t + 1) := by rw [Hval.out, Hpk.out]
            rw [hvv]
            go_roundw
            case rel => exact ⟨kk, 2 * t + 1, by omega, by go_num, hu8, hset.1, G2.out, bel7.setCell (p := ⟨w.heap.size, k, none⟩) (Nat.le_refl _) _, by have := bel7.size; simpa [World.setCell] using this⟩
            case measure => (simp [intOf] <;> omega)
        · obtain rfl : kk = 0 := by omega
          have htl : t < 65536 := digit_lt (k := 0) hm hv.out ht.out (by simpa using x0)
          have hkl := HZk.out
          have hdrop := Hdrop.out
          have hv' : Hid (val D ((Z.set k t).drop k) = val D (l0.drop k) / m) := by
            unfold Hid
            rw [val_drop_succ D _ k (by rw [List.length_set]; exact hkl), List.getElem_set_self, List.drop_set_of_lt (by omega), ← Hq.out, hdrop]
            have := ht.out
            simp only [Nat.sub_zero, Nat.pow_zero, Nat.div_one] at this
            rw [show x + D * P = P * 2 ^ 16 + x by rw [Nat.mul_comm D P, Nat.add_comm]; rfl, ← this, Nat.mul_comm D q, Nat.add_comm]; rfl
          have hr' : (P * 2 ^ (16 - 0) + x / 2 ^ 0) % m = val D (l0.drop k) % m := by
            rw [hdrop]
            simp only [Nat.sub_zero, Nat.pow_zero, Nat.div_one]
            rw [Nat.mul_comm D P, Nat.add_comm]; rfl
          rw [hr'] at hrest'
          rw [Nat.pow_zero, Nat.one_mul] at hown'
          have hz' : Hid (∀ j, j < k → (Z.set k t)[j]?.getD 0 = 0) := fun j hj => by rw [List.getElem?_set_ne (by omega)]; exact hz.out j (by omega)
          have HZ' : Hid ((Z.set k t).length = l0.length) := by unfold Hid; rw [List.length_set]; exact hZ.out
          have sZ' := small_set hsZ k (show t < D from htl)
          clear hr' hkl hdrop ht htl hv hz
          go_wp2_with fail
          go_roundw
          case rel => exact ⟨k, Z.set k t, by omega, by go_num, hrest', hown', HZ', sZ', hv'.out, hz'.out, hbel', hsz'⟩
          case measure => (simp [intOf] <;> omega)
    · obtain rfl : k = 0 := by omega
      have hv' : Hid (strip Z = dig D (val D l0 / m)) := by
        have := hv.out
        simp only [List.drop_zero] at this
        unfold Hid
        rw [← this, strip_dig D2 hsZ]
      simp only [List.drop_zero] at hrest
      have htr := rtrim_any _ Z _ hown.at
      rw [hv'.out] at htr
      have Htr := hid htr
      clear a4 htr
      go_wp2_with fail
      refine Htr.out.mono ?_
      rintro e w' ⟨v', rfl, hv'', rfl⟩
      go_wp2_with fail
      go_ret2
      exact ⟨_, _, rfl, hv'', hrest, hbel⟩
end Go.Proofs.YtippcalhcnjghaaDoor
/- A region that draws its order: each operation is shown once to give its own fact, which lasts; the stores come last, one by one. -/
namespace Go.Proofs.YtippcalhcnjghaaDoor
open Go.RowKit

/-- a fact of a slot's value that lasts while memory grows -/
structure SFact where
  P : Value → World → Prop
  st : ∀ v w w', P v w → Below w.heap.size w w' → P v w'
def putAll (a : Act) : List Tmp → List Value → Act
  | d :: ds, v :: vs => putAll (a.put (some d) v) ds vs
  | _, _ => a
/-- i waits for j, by at most so many steps -/
def reach (md : Region.Mode) (ops : Array Oper) : Nat → Nat → Nat → Bool
  | 0, _, _ => false
  | f + 1, i, j => (ops[i]?).any fun o => (o.after.any fun e => Region.binds md e && e.on == j) || (o.after.any fun e => Region.binds md e && reach md ops f e.on j)
def storesWait (md : Region.Mode) (ops : Array Oper) (n : Nat) : Bool := (List.range ops.size).all fun i => decide (i < n) || (List.range n).all fun j => reach md ops 3 i j
def Closed (md : Region.Mode) (ops : Array Oper) (L : Array Bool) : Prop := ∀ j o, ops[j]? = some o → L.getD j false = true → ∀ e ∈ o.after, Region.binds md e = true → L.getD e.on false = true
theorem reach_listed {md : Region.Mode} {ops : Array Oper} {L : Array Bool} (hc : Closed md ops L) : ∀ (f i : Nat) (o : Oper) (j : Nat), ops[i]? = some o → (∀ e ∈ o.after, Region.binds md e = true → L.getD e.on false = true) → reach md ops f i j = true → L.getD j false = true
  | 0, _, _, _, _, _, h => by cases h
  | f + 1, i, o, j, ho, hall, h => by
    simp only [reach, ho, Option.any_some, Bool.or_eq_true] at h
    rcases h with h | h
    · obtain ⟨e, he, hb⟩ := Array.any_eq_true'.1 h
      simp only [Bool.and_eq_true, beq_iff_eq] at hb
      rw [← hb.2]; exact hall e he hb.1
    · obtain ⟨e, he, hb⟩ := Array.any_eq_true'.1 h
      simp only [Bool.and_eq_true] at hb
      have hl := hall e he hb.1
      cases hoe : ops[e.on]? with
      | none =>
        exfalso
        have h2 := hb.2
        cases f with
        | zero => cases h2
        | succ f => simp [reach, hoe] at h2
      | some o' => exact reach_listed hc f e.on o' j hoe (hc e.on o' hoe hl) hb.2
theorem getD_put {a : Act} {ds : List Tmp} {vs : List Value} {d : Tmp} {v : Value} (hd : d ∉ ds) : putAll (a.put (some d) v) ds vs = (putAll a ds vs).put (some d) v := by
  induction ds generalizing a vs with
  | nil => rfl
  | cons d' ds ih =>
    cases vs with
    | nil => rfl
    | cons v' vs =>
      simp only [putAll]
      have hne : d' ≠ d := fun e => hd (by simp [e])
      rw [Act.put_comm a v v' (x := some d) (y := some d') (by intro x hx hy; cases hx; cases hy; exact hne rfl)]
      exact ih (fun h => hd (by simp [h]))
theorem putAll_set {a : Act} {ds : List Tmp} {vs : List Value} {i : Nat} {d : Tmp} {v : Value} (hn : ds.Nodup) (hi : ds[i]? = some d) (hl : vs.length = ds.length) : (putAll a ds vs).put (some d) v = putAll a ds (vs.set i v) := by
  induction ds generalizing a vs i with
  | nil => simp at hi
  | cons d' ds ih =>
    cases vs with
    | nil => simp at hl
    | cons v' vs =>
      rw [List.nodup_cons] at hn
      cases i with
      | zero =>
        simp at hi; subst hi
        simp only [putAll, List.set_cons_zero]
        rw [← getD_put hn.1]
        congr 1
        unfold Act.put
        simp [Array.setIfInBounds_setIfInBounds]
      | succ i =>
        simp only [putAll, List.set_cons_succ]
        exact ih hn.2 (by simpa using hi) (by simpa using hl)

def dstsAre (ops : Array Oper) (n : Nat) (ds : List Tmp) : Bool := (List.range n).all fun i => (ops[i]?).all fun o => o.dst == ds[i]?
theorem getD_set_list {l : List Value} {i j : Nat} {v : Value} (h : i ≠ j) : (l.set i v).getD j undef = l.getD j undef := by
  simp [List.getD, List.getElem?_set_ne h]
theorem getD_set_list_self {l : List Value} {i : Nat} {v : Value} (h : i < l.length) : (l.set i v).getD i undef = v := by
  simp [List.getD, h]

theorem wpAny_facts {P : Program} {ops : Array Oper} {Q : Exit → Act → World → Prop} {a0 : Act} {w0 : World} (n s : Nat) (hsize : ops.size = n + s) (ds : List Tmp) (f : Nat → SFact) (al : List Nat)
    (hd : edgesDown .any ops = true) (hsw : storesWait .any ops n = true) (hdn : ds.Nodup) (hlen : ds.length = n) (hds : dstsAre ops n ds = true)
    (hal : ∀ i ∈ al, ∀ v w, (f i).P v w → ∃ g, v = .pointer (some ⟨g, 0, none⟩) ∧ g < w.heap.size)
    (hstep : ∀ i o, i < n → ops[i]? = some o → ∀ vs w, vs.length = n → Below w0.heap.size w0 w → (∀ e ∈ o.after, Region.binds .any e = true → (f e.on).P (vs.getD e.on undef) w) →
      ∀ K : Act → World → Prop, Shut (∀ v w', (f i).P v w' → Below w.heap.size w w' → (i ∈ al → v = .pointer (some ⟨w.heap.size, 0, none⟩)) → K ((putAll a0 ds vs).put o.dst v) w') →
        if Region.wanted o (yielded ops (putAll a0 ds vs).tmps) = true then Oper.wp P o (putAll a0 ds vs) w K Q else K ((putAll a0 ds vs).put o.dst undef) w)
    (hend : ∀ vs w, vs.length = n → Below w0.heap.size w0 w → (∀ i, i < n → (f i).P (vs.getD i undef) w) → (∀ i ∈ al, ∀ j ∈ al, i ≠ j → vs.getD i undef ≠ vs.getD j undef) →
      wpAny P .any ops Q s ((List.replicate n true ++ List.replicate s false).toArray) (putAll a0 ds vs) w) :
    ∀ (c : Nat) (L : Array Bool) (vs : List Value) (w : World), (L.toList.take n).count false = c → L.size = n + s → (∀ j, n ≤ j → j < n + s → L.getD j true = false) → Closed .any ops L → vs.length = n → Below w0.heap.size w0 w →
      (∀ i, i < n → L.getD i false = true → (f i).P (vs.getD i undef) w) → (∀ i ∈ al, ∀ j ∈ al, i < n → j < n → i ≠ j → L.getD i false = true → L.getD j false = true → vs.getD i undef ≠ vs.getD j undef) →
      (∀ i ∈ al, i < n) → wpAny P .any ops Q (c + s) L (putAll a0 ds vs) w := by
  intro c
  induction c with
  | zero =>
    intro L vs w hc hs hst hcl hvl hb hf hdist haln
    have hall : ∀ i, i < n → L.getD i false = true := fun i hi => by
      have hil : i < L.size := by omega
      cases hb : L[i] with
      | true => simp [Array.getD, hil, hb]
      | false =>
        exfalso
        have hmem : false ∈ L.toList.take n := by
          rw [List.mem_take_iff_getElem]
          exact ⟨i, by simp; omega, by simpa using hb⟩
        have := List.count_pos_iff.2 hmem
        omega
    have hL : L = (List.replicate n true ++ List.replicate s false).toArray := by
      apply Array.ext
      · simp [hs]
      · intro i hi hi2
        by_cases h : i < n
        · have := hall i h
          simp only [Array.getD, hi] at this
          simp [h]
          simpa using this
        · have := hst i (by omega) (by omega)
          simp only [Array.getD, hi] at this
          simp [List.getElem_append, h]
          simpa using this
    rw [Nat.zero_add, hL]
    exact hend vs w hvl hb (fun i hi => hf i hi (hall i hi)) (fun i hi j hj hne => hdist i hi j hj (haln i hi) (haln j hj) hne (hall i (haln i hi)) (hall j (haln j hj)))
  | succ c ih =>
    intro L vs w hc hs hst hcl hvl hb hf hdist haln
    have hnot : ¬ ∀ i, i < n → L.getD i false = true := fun hall => by
      have : (L.toList.take n).count false = 0 := by
        rw [List.count_eq_zero]
        intro hmem
        rw [List.mem_take_iff_getElem] at hmem
        obtain ⟨i, hi, hif⟩ := hmem
        have hi' : i < L.size := by simp at hi; omega
        have := hall i (by simp at hi; omega)
        have h2 : L.getD i false = L[i] := by simp [Array.getD, hi']
        rw [h2] at this
        rw [Array.getElem_toList] at hif
        rw [hif] at this
        cases this
      omega
    rw [show c + 1 + s = (c + s) + 1 by omega]
    refine ⟨fun hr => ?_, fun i hi => ?_⟩
    · exfalso
      apply hnot
      intro i hi
      have := all_listed hd (by rw [hs, hsize]) hr i (by omega)
      have hil : i < L.size := by omega
      simpa [Array.getD, hil] using this
    · obtain ⟨hun, o, ho, hall⟩ := mem_ready.1 hi
      have hio : i < ops.size := (Array.getElem?_eq_some_iff.1 ho).1
      have hil : i < L.size := by omega
      have hin : i < n := by
        rcases Nat.lt_or_ge i n with h | h
        · exact h
        · exfalso
          apply hnot
          intro j hj
          have h1 := List.all_eq_true.1 hsw i (by simpa using hio)
          simp only [Bool.or_eq_true, decide_eq_true_eq] at h1
          rcases h1 with h1 | h1
          · omega
          · exact reach_listed hcl 3 i o j ho hall (List.all_eq_true.1 h1 j (by simpa using hj))
      have hdst : o.dst = ds[i]? := by
        have h1 := List.all_eq_true.1 hds i (by simpa using hin)
        rw [ho] at h1
        simpa using h1
      have hdi : ds[i]? = some (ds[i]'(by omega)) := by simp
      refine wpOp_step ho (fun K hK => hstep i o hin ho vs w hvl hb (fun e he hbd => ?_) K (fun v w' hv hb' hp => ?_))
      · have hl := hall e he hbd
        have hlt : e.on < n := by
          rcases Nat.lt_or_ge e.on n with h | h
          · exact h
          · exfalso
            rcases Nat.lt_or_ge e.on (n + s) with h2 | h2
            · have := hst e.on h h2
              have hl2 : e.on < L.size := by omega
              simp only [Array.getD, hl2] at this hl
              simp at this hl
              rw [this] at hl; cases hl
            · have : ¬ e.on < L.size := by omega
              simp [Array.getD, this] at hl
        exact hf e.on hlt hl
      · apply hK
        rw [hdst, hdi, putAll_set hdn hdi (by omega)]
        have hset : ∀ j, i ≠ j → (L.setIfInBounds i true).getD j false = L.getD j false := fun j h => getD_set_ne false h
        refine ih (L.setIfInBounds i true) (vs.set i v) w' ?_ (by simpa using hs) ?_ ?_ (by simpa using hvl) (hb.trans (hb'.mono hb.size)) ?_ ?_ haln
        · have hf' : (L.toList.take n)[i]'(by simp; omega) = false := by
            simp only [List.getElem_take]
            simpa [Array.getD, hil] using hun
          have := count_false_set (L.toList.take n) i (by simp; omega) hf'
          rw [Array.toList_setIfInBounds, ← List.take_set] at *
          omega
        · intro j hj hj2
          rw [getD_set_ne true (by omega)]
          exact hst j hj hj2
        · intro j o' hjo hjl e he hbd
          by_cases hji : i = j
          · subst hji
            rw [ho] at hjo
            cases hjo
            exact getD_set_true (hall e he hbd)
          · rw [hset j hji] at hjl
            exact getD_set_true (hcl j o' hjo hjl e he hbd)
        · intro j hj hjl
          by_cases hji : i = j
          · subst hji
            rw [getD_set_list_self (by omega)]
            exact hv
          · rw [hset j hji] at hjl
            rw [getD_set_list hji]
            exact (f j).st _ _ _ (hf j hj hjl) hb'
        · intro j hj k hk hjn hkn hjk hjl hkl
          have old : ∀ x, x ∈ al → x < n → i ≠ x → (L.setIfInBounds i true).getD x false = true → vs.getD x undef ≠ .pointer (some ⟨w.heap.size, 0, none⟩) := fun x hx hxn hix hxl => by
            rw [hset x hix] at hxl
            obtain ⟨g, hg, hgl⟩ := hal x hx _ _ (hf x hxn hxl)
            rw [hg]
            intro e
            injection e with e
            injection e with e
            injection e with e
            omega
          by_cases hji : i = j
          · subst hji
            rw [getD_set_list_self (by omega), getD_set_list hjk, hp hj]
            exact (old k hk hkn hjk hkl).symm
          · by_cases hki : i = k
            · subst hki
              rw [getD_set_list_self (by omega), getD_set_list hji, hp hk]
              exact old j hj hjn hji hjl
            · rw [getD_set_list hji, getD_set_list hki]
              rw [hset j hji] at hjl
              rw [hset k hki] at hkl
              exact hdist j hj k hk hjn hkn hjk hjl hkl

theorem wp_region_facts {P : Program} {ops : Array Oper} {Q : Exit → Act → World → Prop} {id : Nat} {a0 : Act} {w0 : World} (n s : Nat) (ds : List Tmp) (vs0 : List Value) (f : Nat → SFact) (al : List Nat) (hm : P.follows .mixedOrders = true)
    (hsize : ops.size = n + s) (hd : edgesDown .any ops = true) (hsw : storesWait .any ops n = true) (hdn : ds.Nodup) (hlen : ds.length = n) (hds : dstsAre ops n ds = true) (hv0 : vs0.length = n) (haln : ∀ i ∈ al, i < n)
    (he : a0 = putAll a0 ds vs0) (hal : ∀ i ∈ al, ∀ v w, (f i).P v w → ∃ g, v = .pointer (some ⟨g, 0, none⟩) ∧ g < w.heap.size)
    (hstep : ∀ i o, i < n → ops[i]? = some o → ∀ vs w, vs.length = n → Below w0.heap.size w0 w → (∀ e ∈ o.after, Region.binds .any e = true → (f e.on).P (vs.getD e.on undef) w) →
      ∀ K : Act → World → Prop, Shut (∀ v w', (f i).P v w' → Below w.heap.size w w' → (i ∈ al → v = .pointer (some ⟨w.heap.size, 0, none⟩)) → K ((putAll a0 ds vs).put o.dst v) w') →
        if Region.wanted o (yielded ops (putAll a0 ds vs).tmps) = true then Oper.wp P o (putAll a0 ds vs) w K Q else K ((putAll a0 ds vs).put o.dst undef) w)
    (hend : ∀ vs w, vs.length = n → Below w0.heap.size w0 w → (∀ i, i < n → (f i).P (vs.getD i undef) w) → (∀ i ∈ al, ∀ j ∈ al, i ≠ j → vs.getD i undef ≠ vs.getD j undef) →
      wpAny P .any ops Q s ((List.replicate n true ++ List.replicate s false).toArray) (putAll a0 ds vs) w) : (Code.region id ops true).wp P Q a0 w0 := by
  refine wp_region_any hm ?_
  have := wpAny_facts (a0 := a0) (w0 := w0) n s hsize ds f al hd hsw hdn hlen hds hal hstep hend n (Array.replicate ops.size false) vs0 w0.drew
    (by rw [hsize]; simp [List.take_replicate, Nat.min_eq_left (Nat.le_add_right n s)]) (by simp [hsize]) (by intro j hj hj2; simp [Array.getD, hsize, hj2]) (by intro j o _ h; simp [Array.getD] at h) hv0 ((Below.refl _ _).drew)
    (by intro i _ h; simp [Array.getD] at h) (by intro i _ j _ _ _ _ h; simp [Array.getD] at h) haln
  rw [← he, ← hsize] at this
  exact this
theorem wpAny_one {P : Program} {ops : Array Oper} {Q : Exit → Act → World → Prop} {md : Region.Mode} {i fuel : Nat} {o : Oper} {listed : Array Bool} {a : Act} {w : World} (hr : Region.ready md ops listed = [i]) (ho : ops[i]? = some o)
    (h : ∀ K : Act → World → Prop, Shut (∀ a w, wpAny P md ops Q fuel (listed.setIfInBounds i true) a w → K a w) → if Region.wanted o (yielded ops a.tmps) = true then Oper.wp P o a w K Q else K (a.put o.dst undef) w) : wpAny P md ops Q (fuel + 1) listed a w := by
  refine ⟨fun h0 => (by rw [hr] at h0; cases h0), ?_⟩
  rw [hr]
  intro j hj
  obtain rfl : j = i := by simpa using hj
  exact wpOp_step ho (fun K hK => h K hK)
end Go.Proofs.YtippcalhcnjghaaDoor
/- whole.Div, given what whole.divide answers. -/
namespace Go.Proofs.YtippcalhcnjghaaDoor
open Go.RowKit Big

def RDiv (q r : Int) (c : Int) (w : World) (e : Ending) (w' : World) : Prop := ∃ v v', e = .returned (.tuple #[v, v', .int .i64 c]) ∧ IntAt w' v q ∧ IntAt w' v' r ∧ Below w.heap.size w w'

theorem Pair.other {w : World} {g g' : Nat} {t : TypeId} (h : Pair w g t) (hne : g ≠ g') (j : Nat) (u : Value) : Pair (w.setCell ⟨g', j, none⟩ u) g t := by
  obtain ⟨x, p, n, c, hh⟩ := h
  exact ⟨x, p, n, c, (Below.heap_setCell w ⟨g', j, none⟩ u g hne).trans hh⟩
theorem cutTo_slice (p : Option Addr) (n c m : Nat) : cutTo (.slice p n c) m = .slice p m c := rfl
theorem sg_bne (n0 n1 : Bool) (x : Nat) : sg (n0 != n1) x = if n1 then -sg n0 x else sg n0 x := by unfold sg; cases n0 <;> cases n1 <;> simp
theorem div_pos_case {x y : Nat} (n1 : Bool) (_ : 0 < y) : (x : Int) / sg n1 y = sg (false != n1) (x / y) ∧ (x : Int) % sg n1 y = ((x % y : Nat) : Int) := by
  cases n1
  · simp [sg]
  · simp [sg, Int.ediv_neg, Int.emod_neg]
theorem div_neg_even {x y : Nat} (n1 : Bool) (hy : 0 < y) (h : x % y = 0) : (-(x : Int)) / sg n1 y = sg (true != n1) (x / y) ∧ (-(x : Int)) % sg n1 y = 0 := by
  have e : x = y * (x / y) := by have := Nat.div_add_mod x y; omega
  have key : (-(x : Int)) / (y : Int) = -((x / y : Nat) : Int) ∧ (-(x : Int)) % (y : Int) = 0 := by
    refine (Int.ediv_emod_unique (by omega)).2 ⟨?_, by omega, by omega⟩
    have : (x : Int) = (y : Int) * ((x / y : Nat) : Int) := by rw [← Int.natCast_mul, ← e]
    rw [Int.mul_neg, ← this]; omega
  cases n1
  · simpa [sg] using key
  · simp only [sg, if_true, Int.ediv_neg, Int.emod_neg, key.1, key.2]; simp
theorem div_neg_odd {x y : Nat} (n1 : Bool) (hy : 0 < y) (h : 0 < x % y) : (-(x : Int)) / sg n1 y = sg (true != n1) (x / y + 1) ∧ (-(x : Int)) % sg n1 y = ((y - x % y : Nat) : Int) := by
  have hlt := Nat.mod_lt x hy
  have e : (x : Int) = (y : Int) * ((x / y : Nat) : Int) + ((x % y : Nat) : Int) := by
    rw [← Int.natCast_mul, ← Int.natCast_add, Nat.div_add_mod]
  have key : (-(x : Int)) / (y : Int) = -((x / y + 1 : Nat) : Int) ∧ (-(x : Int)) % (y : Int) = ((y - x % y : Nat) : Int) := by
    refine (Int.ediv_emod_unique (by omega)).2 ⟨?_, by omega, by omega⟩
    rw [e]
    generalize x / y = q at *
    generalize x % y = r at *
    have : ((y - r : Nat) : Int) = (y : Int) - (r : Int) := by omega
    rw [this]
    push_cast
    grind
  cases n1
  · simpa [sg] using key
  · simp only [sg, if_true, Int.ediv_neg, Int.emod_neg, key.1, key.2]; simp

set_option maxRecDepth 100000 in
set_option maxHeartbeats 3200000 in
theorem Div_of (v0 v1 : Value) (a b : Int) (w : World) (h0 : RawAt w v0 a) (h1 : RawAt w v1 b) (hb0 : b ≠ 0)
    (hdiv : ∀ W' u u', At W' .u64 u (dig W a.natAbs) → At W' .u64 u' (dig W b.natAbs) → Calls Tryd.prog 50 #[u, u'] W' (RTwo (a.natAbs / b.natAbs) (a.natAbs % b.natAbs) W')) :
    Calls Tryd.prog 25 #[v0, v1] w (RDiv (a / b) (a % b) 0 w) := by
  obtain ⟨n0, s0, l0, rfl, a0, b0, c0, rfl⟩ := h0
  obtain ⟨n1, s1, l1, rfl, a1, b1, c1, rfl⟩ := h1
  rw [sg_natAbs, sg_natAbs] at hdiv
  have t0 : ∀ W : World, At W .u64 s0 l0 → Calls Tryd.prog 38 #[s0] W (fun e w' => e = .returned (cutTo s0 (strip l0).length) ∧ w' = W) := fun W h => trim_val s0 l0 W h
  have t1 : ∀ W : World, At W .u64 s1 l1 → Calls Tryd.prog 38 #[s1] W (fun e w' => e = .returned (cutTo s1 (strip l1).length) ∧ w' = W) := fun W h => trim_val s1 l1 W h
  have T0 := hid t0; have T1 := hid t1; have HD := hid hdiv
  have d0 := hid (strip_dig W2 b0)
  have d1 := hid (strip_dig W2 b1)
  have m0 : sz W (val W l0) ≤ 1099511627776 := Nat.le_trans (sz_val W2 b0) c0
  have m1 : sz W (val W l1) ≤ 1099511627776 := Nat.le_trans (sz_val W2 b1) c1
  obtain ⟨Q, hQ⟩ : ∃ Q, Q = sg n0 (val W l0) / sg n1 (val W l1) := ⟨_, rfl⟩
  obtain ⟨R, hR⟩ : ∃ R, R = sg n0 (val W l0) % sg n1 (val W l1) := ⟨_, rfl⟩
  rw [← hQ, ← hR]
  have HQ := hid hQ; have HR := hid hR
  have hy : 0 < val W l1 := Nat.pos_of_ne_zero fun e => hb0 (by rw [e, sg_zero])
  clear t0 t1 hdiv hQ hR hb0
  obtain ⟨p1, k1, rfl, -⟩ := id a1
  go_enter Tryd.func25, Tryd.ntmps25
  go_wp2_with fail
  go_quiet ((first
    | (go_at_call_of 38 (s0); exact Calls.quiet_of_same (T0.out _ (by repeat (first | exact a0 | apply At.drewN | apply At.drew | apply At.alloc))))
    | (go_at_call 38; exact Calls.quiet_of_same (T1.out _ (by repeat (first | exact a1 | apply At.drewN | apply At.drew | apply At.alloc))))))
  generalize hW : World.drewN (World.alloc (World.alloc (World.alloc (World.alloc w _) _) _) _) _ = W3
  have bw : Below w.heap.size w W3 := by rw [← hW]; exact below_drewN ((((below1 _ _).alloc (by simp) _).alloc (by simp; omega) _).alloc (by simp; omega) _) _
  have hp : Pair W3 (w.heap.size + 1 + 1) 25 := by rw [← hW]; exact Pair.below (Pair.new2 ..) (below_drewN (below1 _ _) _)
  have hp' : Pair W3 (w.heap.size + 1 + 1 + 1) 25 := by rw [← hW]; exact Pair.new3 ..
  have tw : Two W3 w.heap.size (.bool n0) s0 (.bool n1) (.slice p1 l1.length k1) := by
    rw [← hW]; exact (Two.new w _ _ _ _ _).below (below_drewN ((below1 _ _).alloc (by simp) _) _)
  have z3 : w.heap.size + 4 ≤ W3.heap.size := by rw [← hW]; simp
  have A0 : At W3 .u64 (cutTo s0 (strip l0).length) (dig W (val W l0)) := by have := (a0.below bw).strip; rwa [d0.out] at this ⊢
  have A1 : At W3 .u64 (cutTo (.slice p1 l1.length k1) (strip l1).length) (dig W (val W l1)) := by have := (a1.below bw).strip; rwa [d1.out] at this ⊢
  have bw' := hid bw
  have hlen : ((strip l1).length : Nat) ≠ 0 := by rw [d1.out]; exact fun e => by have := (sz_eq_zero W2).1 (show sz W _ = 0 from e); omega
  have hlb : (((strip l1).length : Int) == 0) = false := beq_eq_false_iff_ne.2 (by omega)
  simp only [cutTo_slice] at A1 ⊢
  generalize cutTo s0 (strip l0).length = u0 at *
  generalize (strip l1).length = len1 at *
  generalize val W l0 = x at *
  generalize val W l1 = y at *
  clear hW bw T0 T1 a0 a1 d0 d1 b0 b1 c0 c1 hlen
  go_wp2_with fail
  refine (HD.out W3 _ _ A0 A1).mono ?_
  rintro e W4 ⟨q, r, rfl, hq, hr, hb4⟩
  have tw4 := tw.below hb4
  have hp4 := hp.below hb4
  have hp4' := hp'.below hb4
  have A1' := A1.below hb4
  have bw4 := hid (bw'.out.trans (hb4.mono (B' := w.heap.size) (by omega)))
  have z4 : w.heap.size + 4 ≤ W4.heap.size := Nat.le_trans z3 hb4.size
  clear HD A0 A1 tw hp hp' hb4 bw' z3
  have hsq : sz W (x / y) ≤ 1099511627776 := Nat.le_trans (sz_mono W2 (Nat.div_le_self x y)) m0
  obtain ⟨pr, cr, rfl, -⟩ := id hr
  cases n0
  · obtain ⟨c00, -, c10, -, -⟩ := id tw4
    have EQ : Q = sg n1 (x / y) := by rw [HQ.out]; have := (div_pos_case (x := x) n1 hy).1; simpa [sg] using this
    have ER : R = sg false (x % y) := by rw [HR.out]; have := (div_pos_case (x := x) n1 hy).2; simpa [sg] using this
    have HEQ := hid EQ; have HER := hid ER
    clear EQ ER HQ HR
    go_wp2_with fail
    refine (told_any n1 _ (x / y) _ hq).mono ?_
    rintro e W6 ⟨v6, rfl, hi6, hb6⟩
    have hr6 := hr.below hb6
    have z6 : w.heap.size + 4 ≤ W6.heap.size := Nat.le_trans z4 hb6.size
    go_wp2_with fail
    refine (told_any false _ (x % y) _ hr6).mono ?_
    rintro e W7 ⟨v7, rfl, hi7, hb7⟩
    obtain ⟨p6, n6, c6, rfl, hi6'⟩ := (hi6.below hb7).shape
    obtain ⟨p7, n7, c7, rfl, hi7'⟩ := hi7.shape
    have hpA := (hp4.below hb6).below hb7
    have hpB := (hp4'.below hb6).below hb7
    obtain ⟨_, _, q0, q1, q2, q3⟩ := hpA.cells
    obtain ⟨_, _, r0, r1, r2, r3⟩ := hpB.cells
    have bw7 : Below w.heap.size w W7 := (bw4.out.trans (hb6.mono (B' := w.heap.size) (by omega))).trans (hb7.mono (B' := w.heap.size) (by omega))
    have Hi6 := hid hi6'; have Hi7 := hid hi7'
    clear hi6' hi7' hi6 hi7 hb6 hb7 hr6 tw4 hp4 hp4' hq hr
    go_wp2
    have hpB' := (hpB.other (g' := w.heap.size + 1 + 1) (by omega) 0 (.bool (decide (sg n1 (x / y) < 0)))).other (g' := w.heap.size + 1 + 1) (by omega) 1 (.slice p6 n6 c6)
    exact bodyPost_ret (v := .tuple #[.agg #[.bool (decide (sg n1 (x / y) < 0)), .slice p6 n6 c6], .agg #[.bool (decide (sg false (x % y) < 0)), .slice p7 n7 c7], .int .i64 0])
      (by simp [results, Tryd.results25, go_sem, q0, q1, r0, r1]) rfl
      ⟨_, _, rfl, by rw [HEQ.out]; exact (Hi6.out.stored hpA _ _ _ _).stored hpB' _ _ _ _, by rw [HER.out]; exact (Hi7.out.stored hpA _ _ _ _).stored hpB' _ _ _ _,
        Below.stored (Below.stored bw7 (by omega) _ _) (by omega) _ _⟩
  · obtain ⟨c00, -, c10, -, -⟩ := id tw4
    by_cases hr0 : x % y = 0
    · have EQ : Q = sg (!n1) (x / y) := by rw [HQ.out]; have := (div_neg_even n1 hy hr0).1; simpa [sg] using this
      have ER : R = sg false (x % y) := by rw [HR.out, hr0]; have := (div_neg_even n1 hy hr0).2; simpa [sg] using this
      have HEQ := hid EQ; have HER := hid ER
      have hl0 : (dig W (x % y)).length = 0 := by rw [hr0]; rfl
      rw [hl0] at hr ⊢
      clear EQ ER HQ HR hl0 hr0
      go_wp2_with fail
      refine (told_any (!n1) _ (x / y) _ hq).mono ?_
      rintro e W6 ⟨v6, rfl, hi6, hb6⟩
      have hr6 := hr.below hb6
      have z6 : w.heap.size + 4 ≤ W6.heap.size := Nat.le_trans z4 hb6.size
      go_wp2_with fail
      refine (told_any false _ (x % y) _ hr6).mono ?_
      rintro e W7 ⟨v7, rfl, hi7, hb7⟩
      obtain ⟨p6, n6, c6, rfl, hi6'⟩ := (hi6.below hb7).shape
      obtain ⟨p7, n7, c7, rfl, hi7'⟩ := hi7.shape
      have hpA := (hp4.below hb6).below hb7
      have hpB := (hp4'.below hb6).below hb7
      obtain ⟨_, _, q0, q1, q2, q3⟩ := hpA.cells
      obtain ⟨_, _, r0, r1, r2, r3⟩ := hpB.cells
      have bw7 : Below w.heap.size w W7 := (bw4.out.trans (hb6.mono (B' := w.heap.size) (by omega))).trans (hb7.mono (B' := w.heap.size) (by omega))
      have Hi6 := hid hi6'; have Hi7 := hid hi7'
      clear hi6' hi7' hi6 hi7 hb6 hb7 hr6 tw4 hp4 hp4' hq hr
      go_wp2
      have hpB' := (hpB.other (g' := w.heap.size + 1 + 1) (by omega) 0 (.bool (decide (sg (!n1) (x / y) < 0)))).other (g' := w.heap.size + 1 + 1) (by omega) 1 (.slice p6 n6 c6)
      exact bodyPost_ret (v := .tuple #[.agg #[.bool (decide (sg (!n1) (x / y) < 0)), .slice p6 n6 c6], .agg #[.bool (decide (sg false (x % y) < 0)), .slice p7 n7 c7], .int .i64 0])
        (by simp [results, Tryd.results25, go_sem, q0, q1, r0, r1]) rfl
        ⟨_, _, rfl, by rw [HEQ.out]; exact (Hi6.out.stored hpA _ _ _ _).stored hpB' _ _ _ _, by rw [HER.out]; exact (Hi7.out.stored hpA _ _ _ _).stored hpB' _ _ _ _,
          Below.stored (Below.stored bw7 (by omega) _ _) (by omega) _ _⟩
    · have EQ : Q = sg (!n1) (x / y + 1) := by rw [HQ.out]; have := (div_neg_odd n1 hy (Nat.pos_of_ne_zero hr0)).1; simpa [sg] using this
      have ER : R = sg false (y - x % y) := by rw [HR.out]; have := (div_neg_odd n1 hy (Nat.pos_of_ne_zero hr0)).2; simpa [sg] using this
      have HEQ := hid EQ; have HER := hid ER
      have hl0 : 0 < (dig W (x % y)).length := Nat.pos_of_ne_zero fun e => hr0 ((sz_eq_zero W2).1 e)
      have hd1 : dig W 1 = [1] := dig_one W2 (by decide) (by decide)
      have hlt := Nat.mod_lt x hy
      have HR' := hid hr
      have hpl : ∀ W', Calls Tryd.prog 40 #[q, .slice (some ⟨World.heap W' |>.size, 0, none⟩) 1 1] (W'.alloc (.cells #[.int .u64 1] 59)) (ROwn 59 .u64 (dig W (x / y + 1)) (W'.alloc (.cells #[.int .u64 1] 59))) ∨ ¬ At W' .u64 q (dig W (x / y)) := fun W' => by
        by_cases h : At W' .u64 q (dig W (x / y))
        · left
          exact plus_any q _ (x / y) 1 _ (h.alloc _) (by rw [hd1]; exact At.oneI W' .u64 1 1 _ rfl) hsq (by rw [show sz W 1 = 1 by unfold sz; rw [hd1]; rfl]; omega)
        · right; exact h
      have Hpl : Hid (Calls Tryd.prog 40 #[q, .slice (some ⟨World.heap W4 |>.size, 0, none⟩) 1 1] (W4.alloc (.cells #[.int .u64 1] 59)) (ROwn 59 .u64 (dig W (x / y + 1)) (W4.alloc (.cells #[.int .u64 1] 59)))) := (hpl W4).resolve_right (fun h => h hq)
      clear EQ ER HQ HR hpl hd1
      generalize (dig W (x % y)).length = lr at *
      go_wp2_with fail
      refine Hpl.out.mono ?_
      rintro e W5 ⟨q5, rfl, ho5, hb5⟩
      have b45 : Below W4.heap.size W4 W5 := (below1 _ _).trans (hb5.mono (B' := W4.heap.size) (by simp))
      have tw5 := tw4.below b45
      have z5 : w.heap.size + 4 ≤ W5.heap.size := Nat.le_trans z4 b45.size
      clear hb5 c00 c10
      go_wp2_with fail
      refine (minus_any _ _ y (x % y) _ (A1'.below b45) (HR'.out.below b45) (Nat.le_of_lt hlt) m1).mono ?_
      rintro e W5' ⟨r5, rfl, hr5, hb5'⟩
      have hq5 := ho5.at.below hb5'
      obtain ⟨c00, -, c10, -, z5'⟩ := tw5.below hb5'
      have hp5 := (hp4.below b45).below hb5'
      have hp5' := (hp4'.below b45).below hb5'
      have bw5 := hid ((bw4.out.trans (b45.mono (B' := w.heap.size) (by omega))).trans (hb5'.mono (B' := w.heap.size) (by omega)))
      have z55 : w.heap.size + 4 ≤ W5'.heap.size := Nat.le_trans z5 hb5'.size
      clear ho5 b45 tw5 hb5' A1' HR'
      go_wp2_with fail
      refine (told_any (!n1) _ (x / y + 1) _ hq5).mono ?_
      rintro e W6 ⟨v6, rfl, hi6, hb6⟩
      have hr6 := hr5.below hb6
      have z6 : w.heap.size + 4 ≤ W6.heap.size := Nat.le_trans z55 hb6.size
      go_wp2_with fail
      refine (told_any false _ (y - x % y) _ hr6).mono ?_
      rintro e W7 ⟨v7, rfl, hi7, hb7⟩
      obtain ⟨p6, n6, c6, rfl, hi6'⟩ := (hi6.below hb7).shape
      obtain ⟨p7, n7, c7, rfl, hi7'⟩ := hi7.shape
      have hpA := (hp5.below hb6).below hb7
      have hpB := (hp5'.below hb6).below hb7
      obtain ⟨_, _, q0, q1, q2, q3⟩ := hpA.cells
      obtain ⟨_, _, r0, r1, r2, r3⟩ := hpB.cells
      have bw7 : Below w.heap.size w W7 := (bw5.out.trans (hb6.mono (B' := w.heap.size) (by omega))).trans (hb7.mono (B' := w.heap.size) (by omega))
      have Hi6 := hid hi6'; have Hi7 := hid hi7'
      clear hi6' hi7' hi6 hi7 hb6 hb7 hr6 tw4 hp4 hp4' hq hr
      go_wp2
      have hpB' := (hpB.other (g' := w.heap.size + 1 + 1) (by omega) 0 (.bool (decide (sg (!n1) (x / y + 1) < 0)))).other (g' := w.heap.size + 1 + 1) (by omega) 1 (.slice p6 n6 c6)
      exact bodyPost_ret (v := .tuple #[.agg #[.bool (decide (sg (!n1) (x / y + 1) < 0)), .slice p6 n6 c6], .agg #[.bool (decide (sg false (y - x % y) < 0)), .slice p7 n7 c7], .int .i64 0])
        (by simp [results, Tryd.results25, go_sem, q0, q1, r0, r1]) rfl
        ⟨_, _, rfl, by rw [HEQ.out]; exact (Hi6.out.stored hpA _ _ _ _).stored hpB' _ _ _ _, by rw [HER.out]; exact (Hi7.out.stored hpA _ _ _ _).stored hpB' _ _ _ _,
          Below.stored (Below.stored bw7 (by omega) _ _) (by omega) _ _⟩
end Go.Proofs.YtippcalhcnjghaaDoor
