/- elenchusref01.Sign, Cmp, Of. -/
import Derived.Test.YtlicmnlllappnaaDoorRefSub
namespace Go.Proofs.YtlicmnlllappnaaDoor
open Go.RowKit Big

set_option maxHeartbeats 800000 in
theorem RSign_any (v : Value) (z : Int) (w : World) (h : RawAt w v z) : Calls Tryd.prog 20 #[v] w (RNum .i64 z.sign w) := by
  obtain ⟨neg, s, l, rfl, ha, hs, hl, hz⟩ := h
  have g : ∀ o, Calls Tryd.prog 24 #[.bool neg, s] (w.alloc o) (RInt z (w.alloc o)) := fun o => by
    rw [hz]; exact Whole_any neg s l _ (ha.alloc o) hs (by omega)
  have G := hid g
  clear g hs hl hz
  obtain ⟨p, c, rfl, -⟩ := ha
  go_enter Tryd.func20, Tryd.ntmps20
  go_wp2_with fail
  refine (G.out _).mono ?_
  rintro e w2 ⟨v2, rfl, ⟨s2, rfl, hi2⟩, hb2⟩
  have hlen := sz_eq_zero (n := z.natAbs) W2
  unfold sz at hlen
  obtain ⟨p2, c2, rfl, -⟩ := hi2
  have hpr : Pair w2 w.heap.size 25 := Pair.below (Pair.new ..) hb2
  obtain ⟨_, _, q0, q1, q2, q3⟩ := hpr.cells
  have bw : Below w.heap.size w w2 := (below1 _ _).trans (hb2.mono (B' := w.heap.size) (by simp))
  clear hb2 hpr
  rcases Int.lt_trichotomy z 0 with hz | hz | hz
  · have hs : Hid (z.sign = -1) := Int.sign_eq_neg_one_of_neg hz
    clear hlen
    go_wp2
    go_ret
    exact ⟨by rw [hs.out]; rfl, Below.stored bw (by omega) _ _⟩
  · subst hz
    have hs : Hid ((0 : Int).sign = 0) := rfl
    have h0 : (dig W (0 : Int).natAbs).length = 0 := rfl
    rw [h0]
    clear hlen h0
    go_wp2
    go_ret
    exact ⟨by rw [hs.out]; rfl, Below.stored bw (by omega) _ _⟩
  · have hs : Hid (z.sign = 1) := Int.sign_eq_one_of_pos hz
    have hneg : ¬ z < 0 := by omega
    obtain ⟨n, hn⟩ : ∃ n, n = (dig W z.natAbs).length := ⟨_, rfl⟩
    rw [← hn] at hlen ⊢
    have hn0 : ((n : Int) == 0) = false := beq_eq_false_iff_ne.2 (by omega)
    clear hlen hn
    go_wp2
    go_ret
    exact ⟨by rw [hs.out]; rfl, Below.stored bw (by omega) _ _⟩

theorem ord_sub (a b : Int) : (a - b).sign = ord a b := by
  rcases Int.lt_trichotomy a b with h | h | h
  · rw [ord_lt h, Int.sign_eq_neg_one_of_neg (by omega)]
  · subst h; rw [ord_eq]; simp
  · rw [ord_gt h, Int.sign_eq_one_of_pos (by omega)]

theorem sz_sub (a b : Int) (ha : sz W a.natAbs ≤ 549755813888) (hb : sz W b.natAbs ≤ 549755813888) : sz W (a - b).natAbs ≤ 1099511627776 :=
  Nat.le_trans (sz_mono W2 (by omega : (a - b).natAbs ≤ a.natAbs + b.natAbs)) (Nat.le_trans (sz_add W2 ha hb) (by omega))

set_option maxHeartbeats 800000 in
theorem RCmp_any (v0 v1 : Value) (a b : Int) (w : World) (h0 : RawAt w v0 a) (h1 : RawAt w v1 b) (ha : sz W a.natAbs ≤ 549755813888) (hb : sz W b.natAbs ≤ 549755813888) :
    Calls Tryd.prog 18 #[v0, v1] w (RNum .i64 (ord a b) w) := by
  have hsz := sz_sub a b ha hb
  have g1 : ∀ W', Below w.heap.size w W' → Calls Tryd.prog 16 #[v0, v1] W' (RInt (a - b) W') := fun W' hb => RSub_any v0 v1 a b W' (h0.below hb) (h1.below hb)
  have g2 : ∀ W' v, IntAt W' v (a - b) → Calls Tryd.prog 20 #[v] W' (RNum .i64 (ord a b) W') := fun W' v hv => by
    have := RSign_any v _ W' (hv.raw hsz)
    rwa [ord_sub] at this
  have G1 := hid g1; have G2 := hid g2
  obtain ⟨n0, s0, l0, rfl, a0, -⟩ := id h0
  obtain ⟨n1, s1, l1, rfl, a1, -⟩ := id h1
  clear g1 g2 hsz h0 h1 a0 a1
  generalize a - b = d at *
  generalize ord a b = r at *
  go_enter Tryd.func18, Tryd.ntmps18
  go_wp2_with fail
  refine (G1.out _ ((below1 _ _).alloc (by simp) _)).mono ?_
  rintro e w1 ⟨v1, rfl, hi1, hb1⟩
  go_wp2_with fail
  refine (G2.out _ _ hi1).mono ?_
  rintro e w2 ⟨rfl, hb2⟩
  go_wp2_with fail
  go_ret
  exact ⟨rfl, (((below1 _ _).alloc (by simp) _).trans (hb1.mono (B' := w.heap.size) (by simp; omega))).trans (hb2.mono (B' := w.heap.size) (by have := hb1.size; simp at this; omega))⟩

theorem wrap_of_neg (n : Nat) (h : n < W) : IntKind.u64.wrap (n : Int) = (n : Int) := by
  unfold W at h
  simp only [IntKind.wrap, IntKind.bits, IntKind.signed]
  simp
  omega
theorem small_one {x : Nat} (h : x < W) : Small W [x] := small_cons h (small_nil W)

theorem At.one1 (w : World) (o : Obj) (k : IntKind) (x : Nat) (t : TypeId) : At ((w.alloc o).alloc (.cells #[.int k (x : Nat)] t)) k (.slice (some ⟨w.heap.size + 1, 0, none⟩) 1 1) [x] := by
  have := At.one (w.alloc o) k x t
  rwa [size_alloc] at this
theorem sz_word {n : Nat} (h : n < W) : sz W n ≤ 1 := sz_le_of_lt W2 (by rwa [Nat.pow_one])

set_option maxHeartbeats 1600000 in
theorem ROf_any (z : Int) (w : World) (h0 : -9223372036854775808 ≤ z) (h1 : z ≤ 9223372036854775807) : Calls Tryd.prog 32 #[.int .i64 z] w (RInt z w) := by
  by_cases hz : z < 0
  · obtain ⟨n, hn⟩ : ∃ n : Nat, z = -(n : Int) - 1 := ⟨(-z - 1).toNat, by omega⟩
    have hnW : n < W := by unfold W; omega
    have hn' : n ≤ 9223372036854775807 := by omega
    subst hn
    clear h0 h1
    have hsz : sz W (sg true n).natAbs ≤ 1099511627776 := by rw [sg_natAbs]; exact Nat.le_trans (sz_word hnW) (by omega)
    have hsz1 : sz W (sg false 1).natAbs ≤ 1099511627776 := by rw [sg_natAbs]; exact Nat.le_trans (sz_word (by decide)) (by omega)
    have g1 : ∀ o o', Calls Tryd.prog 24 #[.bool true, .slice (some ⟨w.heap.size + 1, 0, none⟩) 1 1] ((w.alloc o).alloc (.cells #[.int .u64 (n : Nat)] o')) (RInt (sg true n) ((w.alloc o).alloc (.cells #[.int .u64 (n : Nat)] o'))) := fun o o' => by
      have := Whole_any true _ [n] _ (At.one1 w o .u64 n o') (small_one hnW) (by simp)
      rwa [show val W [n] = n by simp [val]] at this
    have g2 : ∀ W' o', Calls Tryd.prog 24 #[.bool false, .slice (some ⟨World.heap W' |>.size, 0, none⟩) 1 1] (W'.alloc (.cells #[.int .u64 1] o')) (RInt (sg false 1) (W'.alloc (.cells #[.int .u64 1] o'))) := fun W' o' => by
      have := Whole_any false _ [1] _ (At.oneI W' .u64 1 1 o' rfl) (small_one (by decide)) (by simp)
      rwa [show val W [1] = 1 by simp [val]] at this
    have g3 : ∀ W' v v', IntAt W' v (sg true n) → IntAt W' v' (sg false 1) → Calls Tryd.prog 16 #[v, v'] W' (RInt (-(n : Int) - 1) W') := fun W' v v' h h' => by
      have := RSub_any v v' _ _ W' (h.raw hsz) (h'.raw hsz1)
      rwa [show sg true n - sg false 1 = -(n : Int) - 1 by simp [sg]] at this
    have G1 := hid g1; have G2 := hid g2; have G3 := hid g3
    clear g1 g2 g3 hsz hsz1
    obtain ⟨r, hr⟩ : ∃ r, r = -(n : Int) - 1 := ⟨_, rfl⟩
    have G3' : Hid (∀ W' v v', IntAt W' v (sg true n) → IntAt W' v' (sg false 1) → Calls Tryd.prog 16 #[v, v'] W' (RInt r W')) := by rw [hr]; exact G3
    have G4 : Hid (∀ e w', RInt r w e w' → RInt (-(n : Int) - 1) w e w') := by rw [hr]; exact fun _ _ h => h
    refine Calls.mono ?_ G4.out
    clear hr G3
    generalize sg true n = a at *
    generalize sg false 1 = b at *
    go_enter Tryd.func32, Tryd.ntmps32
    go_wp2_with fail
    refine (G1.out _ _).mono ?_
    rintro e w1 ⟨v1, rfl, hi1, hb1⟩
    go_wp2_with fail
    refine (G2.out _ _).mono ?_
    rintro e w2 ⟨v2, rfl, hi2, hb2⟩
    have hi1' := hi1.below ((below1 _ _).trans (hb2.mono (B' := w1.heap.size) (by simp)))
    go_wp2_with fail
    refine (G3'.out _ _ _ hi1' hi2).mono ?_
    rintro e w3 ⟨v3, rfl, hi3, hb3⟩
    obtain ⟨p3, n3, c3, rfl, hi3⟩ := hi3.shape
    have z1 : w.heap.size + 2 ≤ w1.heap.size := by have := hb1.size; simp at this; omega
    have z2 : w.heap.size + 3 ≤ w2.heap.size := by have := hb2.size; simp at this; omega
    have b12 : Below w1.heap.size w1 w2 := (below1 _ _).trans (hb2.mono (B' := w1.heap.size) (by simp))
    have hpr : Pair w3 w.heap.size 25 := Pair.below (Pair.below (Pair.below (Pair.below (Pair.new ..) (below1 _ _)) hb1) b12) hb3
    obtain ⟨_, _, q0, q1, q2, q3⟩ := hpr.cells
    have bw : Below w.heap.size w w3 := ((((below1 _ _).alloc (by simp) _).trans (hb1.mono (B' := w.heap.size) (by simp; omega))).trans (b12.mono (B' := w.heap.size) (by omega))).trans (hb3.mono (B' := w.heap.size) (by omega))
    have Hi := hid hi3
    clear hb1 hb2 hb3 b12 hi1 hi1' hi2 hi3
    go_wp2
    exact bodyPost_ret (v := .agg #[.bool (decide (r < 0)), .slice p3 n3 c3]) (by simp [results, Tryd.results32, go_sem, q0, q1]) rfl
      ⟨_, rfl, Hi.out.stored hpr _ _ _ _, Below.stored bw (by omega) _ _⟩
  · obtain ⟨n, hn⟩ : ∃ n : Nat, z = (n : Int) := ⟨z.natAbs, by omega⟩
    subst hn
    have hnW : n < W := by unfold W; omega
    have g1 : ∀ o o', Calls Tryd.prog 24 #[.bool false, .slice (some ⟨w.heap.size + 1, 0, none⟩) 1 1] ((w.alloc o).alloc (.cells #[.int .u64 (n : Nat)] o')) (RInt (n : Int) ((w.alloc o).alloc (.cells #[.int .u64 (n : Nat)] o'))) := fun o o' => by
      have := Whole_any false _ [n] _ (At.one1 w o .u64 n o') (small_one hnW) (by simp)
      rwa [show sg false (val W [n]) = (n : Int) by simp [val, sg]] at this
    have G1 := hid g1
    clear g1
    go_enter Tryd.func32, Tryd.ntmps32
    go_wp2_with fail
    refine (G1.out _ _).mono ?_
    rintro e w1 ⟨v1, rfl, hi1, hb1⟩
    obtain ⟨p3, n3, c3, rfl, hi1⟩ := hi1.shape
    have z1 : w.heap.size + 2 ≤ w1.heap.size := by have := hb1.size; simp at this; omega
    have hpr : Pair w1 w.heap.size 25 := Pair.below (Pair.below (Pair.new ..) (below1 _ _)) hb1
    obtain ⟨_, _, q0, q1, q2, q3⟩ := hpr.cells
    have bw : Below w.heap.size w w1 := ((below1 _ _).alloc (by simp) _).trans (hb1.mono (B' := w.heap.size) (by simp; omega))
    have Hi := hid hi1
    clear hb1 hi1
    go_wp2
    exact bodyPost_ret (v := .agg #[.bool (decide ((n : Int) < 0)), .slice p3 n3 c3]) (by simp [results, Tryd.results32, go_sem, q0, q1]) rfl
      ⟨_, rfl, Hi.out.stored hpr _ _ _ _, Below.stored bw (by omega) _ _⟩
end Go.Proofs.YtlicmnlllappnaaDoor
