/- Texts put together: RefSub, RefOf, DivSmall, Same, Few, Copied, Inv, Copies, Times, Guess, LessBy, TakeOff. -/
import Derived.Test.YtlijekppbpefaaaRoundsCardM2
import Derived.Deep.RegionHeld3
import Derived.Deep.AppendLies
import Derived.WalkKit
/- elenchusref01.Neg, Sub, Sign, Cmp, Of. -/
namespace Go.Proofs.Ytlijekppbpefaaa
open Go.RowKit Big

theorem IntAt.raw {w : World} {v : Value} {z : Int} (h : IntAt w v z) (hs : sz W z.natAbs ≤ 1099511627776) : RawAt w v z := by
  obtain ⟨s, rfl, ha⟩ := h
  refine ⟨_, s, _, rfl, ha, small_dig W2 _, hs, ?_⟩
  rw [val_dig W2]
  unfold sg
  by_cases hz : z < 0 <;> simp [hz] <;> omega
theorem RawAt.sz {w : World} {v : Value} {z : Int} (h : RawAt w v z) : Big.sz W z.natAbs ≤ 1099511627776 := by
  obtain ⟨neg, s, l, rfl, ha, hs, hl, rfl⟩ := h
  rw [sg_natAbs]
  exact Nat.le_trans (sz_val W2 hs) hl

set_option maxHeartbeats 800000 in
theorem RNeg_any (v : Value) (z : Int) (w : World) (h : RawAt w v z) : Calls Try.prog 30 #[v] w (RInt (-z) w) := by
  obtain ⟨neg, s, l, rfl, ha, hs, hl, rfl⟩ := h
  have g : ∀ o o', Calls Try.prog 39 #[.bool (!neg), s] ((w.alloc o).alloc o') (RInt (-sg neg (val W l)) ((w.alloc o).alloc o')) := fun o o' => by
    have := Whole_any (!neg) s l _ ((ha.alloc o).alloc o') hs (by omega)
    rwa [show sg (!neg) (val W l) = -sg neg (val W l) by unfold sg; cases neg <;> simp] at this
  have G := hid g
  generalize -sg neg (val W l) = r at *
  clear g ha hs hl
  go_enter Try.func30, Try.ntmps30
  go_wp2_with fail
  refine (G.out _ _).mono ?_
  rintro e w2 ⟨v2, rfl, hi2, hb2⟩
  obtain ⟨p2, n2, c2, rfl, hi2⟩ := hi2.shape
  have hpr : Pair w2 (w.heap.size + 1) 25 := Pair.below (Pair.new1 ..) hb2
  obtain ⟨_, _, q0, q1, q2, q3⟩ := hpr.cells
  have bw : Below w.heap.size w w2 := ((below1 _ _).alloc (by simp) _).trans (hb2.mono (B' := w.heap.size) (by simp; omega))
  have Hi := hid hi2
  clear hb2 hi2
  go_wp2
  exact bodyPost_ret (v := .agg #[.bool (decide (r < 0)), .slice p2 n2 c2]) (by simp [results, Try.results30, go_sem, q0, q1]) rfl
    ⟨_, rfl, Hi.out.stored hpr _ _ _ _, Below.stored bw (by omega) _ _⟩

set_option maxHeartbeats 1600000 in
set_option maxRecDepth 100000 in
theorem RSub_any (v0 v1 : Value) (a b : Int) (w : World) (h0 : RawAt w v0 a) (h1 : RawAt w v1 b) : Calls Try.prog 38 #[v0, v1] w (RInt (a - b) w) := by
  have g1 : ∀ W', Below w.heap.size w W' → Calls Try.prog 30 #[v1] W' (RInt (-b) W') := fun W' hb => RNeg_any v1 b W' (h1.below hb)
  have g2 : ∀ W' v, Below w.heap.size w W' → IntAt W' v (-b) → Calls Try.prog 50 #[v0, v] W' (RInt (a - b) W') := fun W' v hb hv => by
    have := RAdd_any v0 v a (-b) W' (h0.below hb) (hv.raw (by rw [Int.natAbs_neg]; exact h1.sz))
    rwa [show a + -b = a - b by omega] at this
  have G1 := hid g1; have G2 := hid g2
  obtain ⟨n0, s0, l0, rfl, a0, -⟩ := id h0
  obtain ⟨n1, s1, l1, rfl, a1, -⟩ := id h1
  obtain ⟨p0, c0, rfl, -⟩ := a0
  obtain ⟨p1, c1, rfl, -⟩ := a1
  generalize a - b = r at *
  clear g1 g2 h0 h1
  generalize -b = nb at *
  go_enter Try.func38, Try.ntmps38
  go_wp2_with fail
  generalize hW : World.alloc (World.alloc (World.alloc w _) _) _ = W3
  have bw : Below w.heap.size w W3 := by rw [← hW]; exact ((below1 _ _).alloc (by simp) _).alloc (by simp; omega) _
  have hp : Pair W3 (w.heap.size + 1 + 1) 25 := by rw [← hW]; exact Pair.new2 ..
  obtain ⟨c00, c01, c10, c11, -⟩ : Two W3 w.heap.size (.bool n0) (.slice p0 l0.length c0) (.bool n1) (.slice p1 l1.length c1) := by rw [← hW]; exact (Two.new w _ _ _ _ _).below (below1 _ _)
  have z3 : w.heap.size + 3 ≤ W3.heap.size := by rw [← hW]; simp
  have bw' := hid bw
  clear hW bw
  go_region_held3 (fun w' => w'.cell? ⟨w.heap.size, 0, none⟩ = some (.bool n0) ∧ w'.cell? ⟨w.heap.size, 1, none⟩ = some (.slice p0 l0.length c0) ∧ w'.cell? ⟨w.heap.size + 1, 0, none⟩ = some (.bool n1) ∧ w'.cell? ⟨w.heap.size + 1, 1, none⟩ = some (.slice p1 l1.length c1) ∧ Pair w' (w.heap.size + 1 + 1) 25)
    (first | (go_split_ands; (try dsimp only); (repeat' apply And.intro) <;> first | assumption | exact Pair.drew ‹_› | exact Pair.below ‹_› hb9 | exact Pair.below ‹_› hb8 | exact Pair.below ‹_› hb7 | exact Pair.below ‹_› hb6 | exact Pair.below ‹_› hb5 | exact Pair.below ‹_› hb4 | exact Pair.below ‹_› hb3 | exact Pair.below ‹_› hb2 | exact Pair.below ‹_› hb1 | exact (hb9.cell (by first | omega | (simp; omega) | (simp; done))).trans ‹_› | exact (hb8.cell (by first | omega | (simp; omega) | (simp; done))).trans ‹_› | exact (hb7.cell (by first | omega | (simp; omega) | (simp; done))).trans ‹_› | exact (hb6.cell (by first | omega | (simp; omega) | (simp; done))).trans ‹_› | exact (hb5.cell (by first | omega | (simp; omega) | (simp; done))).trans ‹_› | exact (hb4.cell (by first | omega | (simp; omega) | (simp; done))).trans ‹_› | exact (hb3.cell (by first | omega | (simp; omega) | (simp; done))).trans ‹_› | exact (hb2.cell (by first | omega | (simp; omega) | (simp; done))).trans ‹_› | exact (hb1.cell (by first | omega | (simp; omega) | (simp; done))).trans ‹_› | exact Pair.set1 (Pair.set0 ‹_› _) _ _ _ | exact (cell_stored _ (by first | (dsimp only; omega) | (simp; done) | (simp; omega)) _ _).trans ‹_› | exact Pair.drew (Pair.below ‹_› (below1 _ _)) | exact Pair.below ‹_› (below1 _ _) | exact Pair.far ‹_› (by omega) hb1 | exact Pair.new .. | exact Pair.new1 .. | exact Pair.new2 .. | (go_keep; done)) | (go_keep; done))
    (first
      | (go_at_call 30; refine (G1.out _ bw'.out.drew).mono ?_; rintro e w1 ⟨v1, rfl, hi1, hb1⟩; have hz1 : w.heap.size + 3 ≤ w1.heap.size := (by have := hb1.size; simp at this; omega); obtain ⟨p3, n3, c3, rfl, hi1⟩ := hi1.shape)
      | (go_at_call 50; refine (G2.out _ _ (bw'.out.drew.trans (hb1.mono (B' := w.heap.size) (by simp; omega))) hi1).mono ?_; rintro e w2 ⟨v2, rfl, hi2, hb2⟩; obtain ⟨p2, n2, c2, rfl, hi2⟩ := hi2.shape; have hpr := Pair.below (by go_split_ands; assumption) hb2; obtain ⟨_, _, q0, q1, q2, q3⟩ := hpr.cells))
  go_wp2
  exact bodyPost_ret (v := .agg #[.bool (decide (r < 0)), .slice p2 n2 c2]) (by simp [results, Try.results38, go_sem, q0, q1]) rfl
    ⟨_, rfl, hi2.stored hpr _ _ _ _, Below.stored ((bw'.out.drew.trans (hb1.mono (B' := w.heap.size) (by simp; omega))).trans (hb2.mono (B' := w.heap.size) (by omega))) (by omega) _ _⟩
end Go.Proofs.Ytlijekppbpefaaa
/- elenchusref01.Sign, Cmp, Of. -/
namespace Go.Proofs.Ytlijekppbpefaaa
open Go.RowKit Big

set_option maxHeartbeats 800000 in
theorem RSign_any (v : Value) (z : Int) (w : World) (h : RawAt w v z) : Calls Try.prog 22 #[v] w (RNum .i64 z.sign w) := by
  obtain ⟨neg, s, l, rfl, ha, hs, hl, hz⟩ := h
  have g : ∀ o, Calls Try.prog 39 #[.bool neg, s] (w.alloc o) (RInt z (w.alloc o)) := fun o => by
    rw [hz]; exact Whole_any neg s l _ (ha.alloc o) hs (by omega)
  have G := hid g
  clear g hs hl hz
  obtain ⟨p, c, rfl, -⟩ := ha
  go_enter Try.func22, Try.ntmps22
  go_wp2_with fail
  refine (G.out _).mono ?_
  rintro e w2 ⟨v2, rfl, ⟨s2, rfl, hi2⟩, hb2⟩
  have hlen := sz_eq_zero (n := z.natAbs) W2
  unfold sz at hlen
  obtain ⟨p2, c2, rfl, -⟩ := hi2
  have hpr : Pair w2 w.heap.size 25 := Pair.below (Pair.new ..) hb2
  obtain ⟨_, _, q0, q1, q2, q3⟩ := hpr.cells
  have bw : Below w.heap.size w w2 := (below1 _ _).trans (hb2.mono (B' := w.heap.size) (by simp))
  clear hb2 hpr
  rcases Int.lt_trichotomy z 0 with hz | hz | hz
  · have hs : Hid (z.sign = -1) := Int.sign_eq_neg_one_of_neg hz
    clear hlen
    go_wp2
    go_ret
    exact ⟨by rw [hs.out]; rfl, Below.stored bw (by omega) _ _⟩
  · subst hz
    have hs : Hid ((0 : Int).sign = 0) := rfl
    have h0 : (dig W (0 : Int).natAbs).length = 0 := rfl
    rw [h0]
    clear hlen h0
    go_wp2
    go_ret
    exact ⟨by rw [hs.out]; rfl, Below.stored bw (by omega) _ _⟩
  · have hs : Hid (z.sign = 1) := Int.sign_eq_one_of_pos hz
    have hneg : ¬ z < 0 := by omega
    obtain ⟨n, hn⟩ : ∃ n, n = (dig W z.natAbs).length := ⟨_, rfl⟩
    rw [← hn] at hlen ⊢
    have hn0 : ((n : Int) == 0) = false := beq_eq_false_iff_ne.2 (by omega)
    clear hlen hn
    go_wp2
    go_ret
    exact ⟨by rw [hs.out]; rfl, Below.stored bw (by omega) _ _⟩

theorem ord_sub (a b : Int) : (a - b).sign = ord a b := by
  rcases Int.lt_trichotomy a b with h | h | h
  · rw [ord_lt h, Int.sign_eq_neg_one_of_neg (by omega)]
  · subst h; rw [ord_eq]; simp
  · rw [ord_gt h, Int.sign_eq_one_of_pos (by omega)]

theorem sz_sub (a b : Int) (ha : sz W a.natAbs ≤ 549755813888) (hb : sz W b.natAbs ≤ 549755813888) : sz W (a - b).natAbs ≤ 1099511627776 :=
  Nat.le_trans (sz_mono W2 (by omega : (a - b).natAbs ≤ a.natAbs + b.natAbs)) (Nat.le_trans (sz_add W2 ha hb) (by omega))

theorem wrap_of_neg (n : Nat) (h : n < W) : IntKind.u64.wrap (n : Int) = (n : Int) := by
  unfold W at h
  simp only [IntKind.wrap, IntKind.bits, IntKind.signed]
  simp
  omega
theorem small_one {x : Nat} (h : x < W) : Small W [x] := small_cons h (small_nil W)

theorem At.one1 (w : World) (o : Obj) (k : IntKind) (x : Nat) (t : TypeId) : At ((w.alloc o).alloc (.cells #[.int k (x : Nat)] t)) k (.slice (some ⟨w.heap.size + 1, 0, none⟩) 1 1) [x] := by
  have := At.one (w.alloc o) k x t
  rwa [size_alloc] at this
theorem sz_word {n : Nat} (h : n < W) : sz W n ≤ 1 := sz_le_of_lt W2 (by rwa [Nat.pow_one])

set_option maxHeartbeats 1600000 in
theorem ROf_any (z : Int) (w : World) (h0 : -9223372036854775808 ≤ z) (h1 : z ≤ 9223372036854775807) : Calls Try.prog 20 #[.int .i64 z] w (RInt z w) := by
  by_cases hz : z < 0
  · obtain ⟨n, hn⟩ : ∃ n : Nat, z = -(n : Int) - 1 := ⟨(-z - 1).toNat, by omega⟩
    have hnW : n < W := by unfold W; omega
    have hn' : n ≤ 9223372036854775807 := by omega
    subst hn
    clear h0 h1
    have hsz : sz W (sg true n).natAbs ≤ 1099511627776 := by rw [sg_natAbs]; exact Nat.le_trans (sz_word hnW) (by omega)
    have hsz1 : sz W (sg false 1).natAbs ≤ 1099511627776 := by rw [sg_natAbs]; exact Nat.le_trans (sz_word (by decide)) (by omega)
    have g1 : ∀ o o', Calls Try.prog 39 #[.bool true, .slice (some ⟨w.heap.size + 1, 0, none⟩) 1 1] ((w.alloc o).alloc (.cells #[.int .u64 (n : Nat)] o')) (RInt (sg true n) ((w.alloc o).alloc (.cells #[.int .u64 (n : Nat)] o'))) := fun o o' => by
      have := Whole_any true _ [n] _ (At.one1 w o .u64 n o') (small_one hnW) (by simp)
      rwa [show val W [n] = n by simp [val]] at this
    have g2 : ∀ W' o', Calls Try.prog 39 #[.bool false, .slice (some ⟨World.heap W' |>.size, 0, none⟩) 1 1] (W'.alloc (.cells #[.int .u64 1] o')) (RInt (sg false 1) (W'.alloc (.cells #[.int .u64 1] o'))) := fun W' o' => by
      have := Whole_any false _ [1] _ (At.oneI W' .u64 1 1 o' rfl) (small_one (by decide)) (by simp)
      rwa [show val W [1] = 1 by simp [val]] at this
    have g3 : ∀ W' v v', IntAt W' v (sg true n) → IntAt W' v' (sg false 1) → Calls Try.prog 38 #[v, v'] W' (RInt (-(n : Int) - 1) W') := fun W' v v' h h' => by
      have := RSub_any v v' _ _ W' (h.raw hsz) (h'.raw hsz1)
      rwa [show sg true n - sg false 1 = -(n : Int) - 1 by simp [sg]] at this
    have G1 := hid g1; have G2 := hid g2; have G3 := hid g3
    clear g1 g2 g3 hsz hsz1
    obtain ⟨r, hr⟩ : ∃ r, r = -(n : Int) - 1 := ⟨_, rfl⟩
    have G3' : Hid (∀ W' v v', IntAt W' v (sg true n) → IntAt W' v' (sg false 1) → Calls Try.prog 38 #[v, v'] W' (RInt r W')) := by rw [hr]; exact G3
    have G4 : Hid (∀ e w', RInt r w e w' → RInt (-(n : Int) - 1) w e w') := by rw [hr]; exact fun _ _ h => h
    refine Calls.mono ?_ G4.out
    clear hr G3
    generalize sg true n = a at *
    generalize sg false 1 = b at *
    go_enter Try.func20, Try.ntmps20
    go_wp2_with fail
    refine (G1.out _ _).mono ?_
    rintro e w1 ⟨v1, rfl, hi1, hb1⟩
    go_wp2_with fail
    refine (G2.out _ _).mono ?_
    rintro e w2 ⟨v2, rfl, hi2, hb2⟩
    have hi1' := hi1.below ((below1 _ _).trans (hb2.mono (B' := w1.heap.size) (by simp)))
    go_wp2_with fail
    refine (G3'.out _ _ _ hi1' hi2).mono ?_
    rintro e w3 ⟨v3, rfl, hi3, hb3⟩
    obtain ⟨p3, n3, c3, rfl, hi3⟩ := hi3.shape
    have z1 : w.heap.size + 2 ≤ w1.heap.size := by have := hb1.size; simp at this; omega
    have z2 : w.heap.size + 3 ≤ w2.heap.size := by have := hb2.size; simp at this; omega
    have b12 : Below w1.heap.size w1 w2 := (below1 _ _).trans (hb2.mono (B' := w1.heap.size) (by simp))
    have hpr : Pair w3 w.heap.size 25 := Pair.below (Pair.below (Pair.below (Pair.below (Pair.new ..) (below1 _ _)) hb1) b12) hb3
    obtain ⟨_, _, q0, q1, q2, q3⟩ := hpr.cells
    have bw : Below w.heap.size w w3 := ((((below1 _ _).alloc (by simp) _).trans (hb1.mono (B' := w.heap.size) (by simp; omega))).trans (b12.mono (B' := w.heap.size) (by omega))).trans (hb3.mono (B' := w.heap.size) (by omega))
    have Hi := hid hi3
    clear hb1 hb2 hb3 b12 hi1 hi1' hi2 hi3
    go_wp2
    exact bodyPost_ret (v := .agg #[.bool (decide (r < 0)), .slice p3 n3 c3]) (by simp [results, Try.results20, go_sem, q0, q1]) rfl
      ⟨_, rfl, Hi.out.stored hpr _ _ _ _, Below.stored bw (by omega) _ _⟩
  · obtain ⟨n, hn⟩ : ∃ n : Nat, z = (n : Int) := ⟨z.natAbs, by omega⟩
    subst hn
    have hnW : n < W := by unfold W; omega
    have g1 : ∀ o o', Calls Try.prog 39 #[.bool false, .slice (some ⟨w.heap.size + 1, 0, none⟩) 1 1] ((w.alloc o).alloc (.cells #[.int .u64 (n : Nat)] o')) (RInt (n : Int) ((w.alloc o).alloc (.cells #[.int .u64 (n : Nat)] o'))) := fun o o' => by
      have := Whole_any false _ [n] _ (At.one1 w o .u64 n o') (small_one hnW) (by simp)
      rwa [show sg false (val W [n]) = (n : Int) by simp [val, sg]] at this
    have G1 := hid g1
    clear g1
    go_enter Try.func20, Try.ntmps20
    go_wp2_with fail
    refine (G1.out _ _).mono ?_
    rintro e w1 ⟨v1, rfl, hi1, hb1⟩
    obtain ⟨p3, n3, c3, rfl, hi1⟩ := hi1.shape
    have z1 : w.heap.size + 2 ≤ w1.heap.size := by have := hb1.size; simp at this; omega
    have hpr : Pair w1 w.heap.size 25 := Pair.below (Pair.below (Pair.new ..) (below1 _ _)) hb1
    obtain ⟨_, _, q0, q1, q2, q3⟩ := hpr.cells
    have bw : Below w.heap.size w w1 := ((below1 _ _).alloc (by simp) _).trans (hb1.mono (B' := w.heap.size) (by simp; omega))
    have Hi := hid hi1
    clear hb1 hi1
    go_wp2
    exact bodyPost_ret (v := .agg #[.bool (decide ((n : Int) < 0)), .slice p3 n3 c3]) (by simp [results, Try.results20, go_sem, q0, q1]) rfl
      ⟨_, rfl, Hi.out.stored hpr _ _ _ _, Below.stored bw (by omega) _ _⟩
end Go.Proofs.Ytlijekppbpefaaa
/- whole.divide of numbers of one word. -/
namespace Go.Proofs.Ytlijekppbpefaaa
open Go.RowKit Big

def RTwo (q r : Nat) (w : World) (e : Ending) (w' : World) : Prop := ∃ v v', e = .returned (.tuple #[v, v']) ∧ At w' .u64 v (dig W q) ∧ At w' .u64 v' (dig W r) ∧ Below w.heap.size w w'

theorem head_dig {n : Nat} (h : n < W) : (dig W n).headD 0 = n := by
  by_cases h0 : n = 0
  · subst h0; rfl
  · rw [dig_one W2 (by omega) h]; rfl

set_option maxRecDepth 100000 in
set_option maxHeartbeats 1600000 in
theorem divide_small (v0 v1 : Value) (n m : Nat) (w : World) (h0 : At w .u64 v0 (dig W n)) (h1 : At w .u64 v1 (dig W m)) (hn : n < W) (hm : m < W) (hm0 : 0 < m) :
    Calls Try.prog 42 #[v0, v1] w (RTwo (n / m) (n % m) w) := by
  have g0 : ∀ W', Below w.heap.size w W' → Calls Try.prog 57 #[v0] W' fun e w' => e = .returned (.int .u64 (n : Nat)) ∧ W' = w' := fun W' hb => by
    have := word_any v0 _ W' (h0.below hb); rwa [head_dig hn] at this
  have g1 : ∀ W', Below w.heap.size w W' → Calls Try.prog 57 #[v1] W' fun e w' => e = .returned (.int .u64 (m : Nat)) ∧ W' = w' := fun W' hb => by
    have := word_any v1 _ W' (h1.below hb); rwa [head_dig hm] at this
  have s0 : (dig W n).length ≤ 1 := sz_word hn
  have s1 : (dig W m).length ≤ 1 := sz_word hm
  have G0 := hid g0; have G1 := hid g1
  clear g0 g1
  obtain ⟨p0, c0, rfl, -⟩ := h0
  obtain ⟨p1, c1, rfl, -⟩ := h1
  have o0 : ∀ W', Calls Try.prog 56 #[.int .u64 ((n / m : Nat) : Int)] W' (RAt .u64 (dig W (n / m)) W') := fun W' => ownWord_any (n / m) W' (Nat.lt_of_le_of_lt (Nat.div_le_self n m) hn)
  have o1 : ∀ W', Calls Try.prog 56 #[.int .u64 ((n % m : Nat) : Int)] W' (RAt .u64 (dig W (n % m)) W') := fun W' => ownWord_any (n % m) W' (Nat.lt_trans (Nat.mod_lt n hm0) hm)
  have O0 := hid o0; have O1 := hid o1
  clear o0 o1
  have hq : n / m < W := Nat.lt_of_le_of_lt (Nat.div_le_self n m) hn
  have td' : IntKind.u64.wrap ((n : Int) / (m : Int)) = ((n / m : Nat) : Int) := by
    rw [← Int.natCast_ediv]
    generalize n / m = q at *
    unfold W at hq
    simp only [IntKind.wrap, IntKind.bits, IntKind.signed]
    simp; omega
  have tm' : ((n : Int) % (m : Int)) = ((n % m : Nat) : Int) := (Int.natCast_emod n m).symm
  have hb : ((m : Int) == 0) = false := beq_eq_false_iff_ne.2 (by omega)
  have Td' := hid td'; have Tm' := hid tm'
  clear td' tm' hq
  generalize (dig W n).length = k0 at *
  generalize (dig W m).length = k1 at *
  go_enter Try.func42, Try.ntmps42
  go_wp2_with fail
  refine (G0.out _ (Below.refl _ _)).mono ?_
  rintro e w' ⟨rfl, rfl⟩
  go_wp2_with fail
  refine (G1.out _ (Below.refl _ _)).mono ?_
  rintro e w' ⟨rfl, rfl⟩
  go_wp2_with fail
  rw [Td'.out]
  refine (O0.out _).mono ?_
  rintro e w1 ⟨q, rfl, hq, hb1⟩
  go_wp2_with fail
  refine (G0.out _ hb1).mono ?_
  rintro e w' ⟨rfl, rfl⟩
  go_wp2_with fail
  refine (G1.out _ hb1).mono ?_
  rintro e w' ⟨rfl, rfl⟩
  go_wp2_with fail
  rw [Tm'.out]
  refine (O1.out _).mono ?_
  rintro e w2 ⟨r, rfl, hr, hb2⟩
  go_wp2_with fail
  go_ret2
  exact ⟨_, _, rfl, hq.below hb2, hr, hb1.trans (hb2.mono hb1.size)⟩
end Go.Proofs.Ytlijekppbpefaaa
/- elenchusref01.Same, SameInt. -/
namespace Go.Proofs.Ytlijekppbpefaaa
open Go.RowKit Big

def RDrawn (v : Value) (w : World) (e : Ending) (w' : World) : Prop := e = .returned v ∧ ∃ k, w' = w.drewN k

set_option maxHeartbeats 800000 in
theorem Same_any (v0 v1 : Value) (l0 l1 : List Nat) (w : World) (h0 : At w .u64 v0 l0) (h1 : At w .u64 v1 l1) :
    Calls Try.prog 27 #[v0, v1] w (RDrawn (.bool (decide (l0 = l1))) w) := by
  obtain ⟨r, hr⟩ : ∃ r, r = decide (l0 = l1) := ⟨_, rfl⟩
  rw [← hr]
  have Hr := hid hr
  clear hr
  obtain ⟨p0, c0, rfl, a1, a2, a3, a4⟩ := h0
  obtain ⟨p1, c1, rfl, b1, b2, b3, b4⟩ := h1
  unfold maxLen at a2 b2
  by_cases hl : l0.length = l1.length
  · have Hl := hid hl
    rw [hl] at a1 ⊢; clear hl
    go_enter Try.func27, Try.ntmps27
    go_wp2_with fail
    go_loopw [13] (fun i wr => ∃ (k : Nat), k ≤ l1.length ∧ i = .int .i64 (k : Nat) ∧ Hid (l0.take k = l1.take k) ∧ Hid (∃ j, wr = w.drewN j)) (fun i _ => l1.length - (intOf i).toNat)
    case atStart => exact ⟨0, Nat.zero_le _, rfl, rfl, 0, rfl⟩
    case round =>
      obtain ⟨k, hk, rfl, hd, Hw⟩ := hrel
      by_cases hk0 : k < l1.length
      · have hkl : k < l0.length := by rw [Hl.out]; omega
        obtain ⟨b, off, rfl, hbb, hc0⟩ := a4 (Nat.lt_of_le_of_lt (Nat.zero_le _) hkl)
        obtain ⟨b', off', rfl, hbb', hc1⟩ := b4 (by omega)
        have e0 : wr.cell? ⟨b, off + k, none⟩ = some (.int .u64 (l0[k] : Nat)) := by obtain ⟨j, rfl⟩ := Hw.out; exact hc0 k hkl
        have e1 : wr.cell? ⟨b', off' + k, none⟩ = some (.int .u64 (l1[k] : Nat)) := by obtain ⟨j, rfl⟩ := Hw.out; exact hc1 k (by omega)
        have es : l0[k] = l1[k] → l0.take (k + 1) = l1.take (k + 1) := fun h => by rw [take_succ' l0 k hkl, take_succ' l1 k hk0, hd.out, h]
        have en : l0[k] ≠ l1[k] → decide (l0 = l1) = false := fun h => by simp only [decide_eq_false_iff_not]; rintro rfl; exact h rfl
        generalize l0[k] = x at *
        generalize l1[k] = y at *
        have Es : Hid (x = y → l0.take (k + 1) = l1.take (k + 1)) := es
        have En : Hid (x ≠ y → decide (l0 = l1) = false) := en
        clear a4 b4 hc0 hc1 es en hbb hbb'
        have hlow : (0 : Int) ≤ (k : Int) := by omega
        have hup : (k : Int) < (l1.length : Int) := by omega
        by_cases hxy : x = y
        · subst hxy
          go_wp2
          go_quiet (fail)
          go_wp2
          go_roundw
          case rel => exact ⟨k + 1, by omega, by go_num, Es.out (by trivial), drawn_more Hw.out⟩
          case measure => (simp [intOf] <;> omega)
        · have hb : ((x : Int) != (y : Int)) = true := bne_iff_ne.2 (fun h => hxy (by omega))
          have Hf : Hid (decide (l0 = l1) = false) := En.out hxy
          clear Es En
          go_wp2
          go_quiet (fail)
          go_wp2
          go_ret
          exact ⟨by rw [Hr.out, Hf.out]; rfl, drawn_more Hw.out⟩
      · obtain rfl : k = l1.length := by omega
        have ht : Hid (decide (l0 = l1) = true) := by
          have h := hd.out
          rw [List.take_length, List.take_of_length_le (Nat.le_of_eq Hl.out)] at h
          simpa [Hid] using h
        clear a4 b4 hd
        go_wp2
        go_ret
        exact ⟨by rw [Hr.out, ht.out]; rfl, Hw.out⟩
  · have hb : ((l0.length : Int) != (l1.length : Int)) = true := bne_iff_ne.2 (by omega)
    have Hf : Hid (decide (l0 = l1) = false) := by
      simp only [Hid, decide_eq_false_iff_not]; rintro rfl; exact hl rfl
    clear a4 b4
    go_enter Try.func27, Try.ntmps27
    go_wp2
    go_ret
    exact ⟨by rw [Hr.out, Hf.out]; rfl, 0, rfl⟩

set_option maxHeartbeats 800000 in
theorem SameInt_raw (n0 n1 : Bool) (s0 s1 : Value) (l0 l1 : List Nat) (w : World) (h0 : At w .u64 s0 l0) (h1 : At w .u64 s1 l1) (hn : n0 = n1) (hl : l0 = l1) :
    Calls Try.prog 9 #[.agg #[.bool n0, s0], .agg #[.bool n1, s1]] w (RBool true w) := by
  subst hn
  subst hl
  have g : ∀ o o', Calls Try.prog 27 #[s0, s1] ((w.alloc o).alloc o') (RDrawn (.bool true) ((w.alloc o).alloc o')) := fun o o' => by
    have := Same_any s0 s1 l0 l0 _ ((h0.alloc o).alloc o') ((h1.alloc o).alloc o')
    rwa [decide_eq_true rfl] at this
  have G := hid g
  clear g h0 h1
  go_enter Try.func9, Try.ntmps9
  go_wp2_with fail
  refine (G.out _ _).mono ?_
  rintro e w' ⟨rfl, k, rfl⟩
  go_wp2_with fail
  go_ret
  exact ⟨rfl, below_drewN ((below1 _ _).alloc (by simp) _) _⟩
theorem SameInt_same (v0 v1 : Value) (z : Int) (w : World) (h0 : IntAt w v0 z) (h1 : IntAt w v1 z) : Calls Try.prog 9 #[v0, v1] w (RBool true w) := by
  obtain ⟨s0, rfl, a0⟩ := h0
  obtain ⟨s1, rfl, a1⟩ := h1
  exact SameInt_raw _ _ s0 s1 _ _ w a0 a1 rfl rfl
end Go.Proofs.Ytlijekppbpefaaa
/- elenchuslaw01.few of two numbers, copied. -/
namespace Go.Proofs.Ytlijekppbpefaaa
open Go.RowKit Big

end Go.Proofs.Ytlijekppbpefaaa
/- elenchuslaw01.copied: the same number in new memory. -/
namespace Go.Proofs.Ytlijekppbpefaaa
open Go.RowKit Big

theorem Pair.far {w w' : World} {g B : Nat} {t : TypeId} (h : Pair w g t) (hg : g < B) (hb : Below B w w') : Pair w' g t := by
  obtain ⟨x, p, n, c, h⟩ := h
  exact ⟨x, p, n, c, (hb.block g hg).trans h⟩
/-- 'append(v, x...)' inside a region that draws its order -/
theorem step_append_at {P : Program} {w : World} {ops : Array Oper} {o : Oper} {a : Act} {K : Act → World → Prop} {Q : Exit → Act → World → Prop} {E' : Prop} (hgd : o.guard = none) (s x : Operand) (t : TypeId)
    (ho : o.op = .call { callee := .builtin .append, args := #[s, x], argTypes := #[t, t] })
    {e : TypeId} {k : IntKind} {size : Nat} (E : Elem P t e k size) (base : Nat) (v : Value) (l : List Nat) (hs : a.eval s = v) (hown : Own w base e k v l)
    (vx : Value) (m : List Nat) (hx : a.eval x = vx) (hat : At w k vx m)
    (hlen : l.length + m.length ≤ maxLen) (hbytes : (l.length + m.length) * size ≤ 140737488355328) (hbase : base ≤ w.heap.size)
    (h : ∀ v' w', Own w' base e k v' (l ++ m) → Below base w w' → w.heap.size ≤ w'.heap.size → K (a.put o.dst v') w') :
    if Region.wanted o (yielded ops a.tmps) = true then Oper.wp P o a w K Q else E' := by
  have hw : Region.wanted o (yielded ops a.tmps) = true := by simp [Region.wanted, hgd]
  rw [if_pos hw]
  obtain ⟨i, hi, hz, hsz, hby⟩ := E.row
  obtain ⟨p, cap, rfl, h1, h2, h3, h4⟩ := hat
  cases p with
  | none =>
    obtain rfl := h3 rfl
    obtain rfl : m = [] := List.eq_nil_of_length_eq_zero (by omega)
    have hrun := run_append_owned_none (P := P) (w := w) base t o.type e i 1 E.und hi v l.length (ints k l) hown
    unfold Oper.wp
    simp [execOp, ho, resolve, invoke, builtin, hs, hx, hrun, Result.andThen]
    exact h _ _ (by rw [List.append_nil]; exact hown) (Below.refl _ _) (Nat.le_refl _)
  | some ad =>
    refine wp_append_own w s x t ho base e i (.int k 0) 1 size E.und hi hz hsz hby rfl (by decide) v l.length (ints k l) hs hown ad m.length cap (ints k m) hx (by simp [ints_length]) ?_ ?_ hlen hbytes hbase ?_
    · intro j u hj
      by_cases hjm : j < m.length
      · obtain ⟨b, off, he, hb, hc⟩ := h4 (by omega)
        cases he
        rw [Go.WideShapes.add_plain, hc j hjm]
        simpa [ints, hjm] using hj
      · rw [List.getElem?_eq_none (by rw [ints_length]; omega)] at hj; cases hj
    · intro u hu
      obtain ⟨n, _, rfl⟩ := List.mem_map.1 hu
      rfl
    · intro v' w' h5 h6 _
      refine h v' w' ?_ ((Below.refl _ _).grown h6 hbase hown.row) h6.size
      unfold Own
      rw [List.length_append, ints_append]; exact h5

def RCopied (neg : Bool) (l : List Nat) (w : World) (e : Ending) (w' : World) : Prop := ∃ p c, e = .returned (.agg #[.bool neg, .slice p l.length c]) ∧ At w' .u64 (.slice p l.length c) l ∧ Below w.heap.size w w'

end Go.Proofs.Ytlijekppbpefaaa
/- A region that draws its order, walked operation by operation under an invariant that speaks of what has come up: no branching over the orders. -/
namespace Go.Proofs.Ytlijekppbpefaaa

theorem count_false_set (l : List Bool) (i : Nat) (h : i < l.length) (hf : l[i] = false) : (l.set i true).count false + 1 = l.count false := by
  induction l generalizing i with
  | nil => simp at h
  | cons b l ih =>
    cases i with
    | zero => simp at hf; subst hf; simp
    | succ i =>
      have := ih i (by simpa using h) (by simpa using hf)
      cases b <;> simp [List.set_cons_succ] <;> omega

/-- edges lead to lower numbers -/
def edgesDown (md : Region.Mode) (ops : Array Oper) : Bool := (List.range ops.size).all fun i => (ops[i]?).all fun o => o.after.all fun e => !Region.binds md e || decide (e.on < i)

theorem all_listed {md : Region.Mode} {ops : Array Oper} (hd : edgesDown md ops = true) {listed : Array Bool} (hs : listed.size = ops.size) (hr : Region.ready md ops listed = []) : ∀ i, i < ops.size → listed.getD i true = true := by
  intro i
  induction i using Nat.strongRecOn with
  | _ i ih =>
    intro hi
    cases hun : listed.getD i true with
    | true => rfl
    | false =>
    have : i ∈ Region.ready md ops listed := mem_ready.2 ⟨hun, ops[i], by simp [hi], fun e he hb => by
      have h1 := List.all_eq_true.1 hd i (by simpa using hi)
      have h2 : ops[i]? = some ops[i] := by simp [hi]
      rw [h2] at h1
      simp only [Option.all_some, Array.all_eq_true_iff_forall_mem] at h1
      have hlt : e.on < i := by simpa [hb] using h1 e he
      have h4 := ih e.on hlt (by omega)
      have h5 : e.on < listed.size := by omega
      simpa [Array.getD, h5] using h4⟩
    rw [hr] at this; cases this

theorem wpAny_inv {P : Program} {ops : Array Oper} {Q : Exit → Act → World → Prop} {md : Region.Mode} (I : Array Bool → Act → World → Prop) (hd : edgesDown md ops = true)
    (hstep : ∀ listed a w, listed.size = ops.size → I listed a w → ∀ i, i ∈ Region.ready md ops listed → wpOp P ops Q i (fun a' w' => I (listed.setIfInBounds i true) a' w') a w)
    (hend : ∀ listed a w, listed.size = ops.size → I listed a w → (∀ i, i < ops.size → listed.getD i true = true) → Q .normal a w) :
    ∀ (fuel : Nat) (listed : Array Bool) (a : Act) (w : World), listed.size = ops.size → listed.toList.count false ≤ fuel → I listed a w → wpAny P md ops Q fuel listed a w := by
  intro fuel
  induction fuel with
  | zero =>
    intro listed a w hs hc hI
    have hr : Region.ready md ops listed = [] := by
      cases hr : Region.ready md ops listed with
      | nil => rfl
      | cons i is =>
        have hm : i ∈ Region.ready md ops listed := by rw [hr]; simp
        obtain ⟨hun, o, ho, -⟩ := mem_ready.1 hm
        have hi : i < listed.size := by rw [hs]; exact (Array.getElem?_eq_some_iff.1 ho).1
        have hmem : false ∈ listed.toList := by
          have : listed[i] = false := by simpa [Array.getD, hi] using hun
          rw [← this]; simp
        have := List.count_pos_iff.2 hmem
        omega
    exact ⟨hr, hend _ _ _ hs hI (all_listed hd hs hr)⟩
  | succ fuel ih =>
    intro listed a w hs hc hI
    refine ⟨fun hr => hend _ _ _ hs hI (all_listed hd hs hr), fun i hi => ?_⟩
    obtain ⟨hun, o, ho, -⟩ := mem_ready.1 hi
    have hil : i < listed.size := by rw [hs]; exact (Array.getElem?_eq_some_iff.1 ho).1
    have hf : listed.toList[i] = false := by simpa [Array.getD, hil] using hun
    have hcount := count_false_set listed.toList i (by simpa using hil) hf
    refine wpOp_mono (fun a' w' h => ih _ a' w' (by simpa using hs) ?_ h) (hstep listed a w hs hI i hi)
    simp only [Array.toList_setIfInBounds]
    omega

/-- The invariant rule at a region: it holds at the beginning with nothing listed. -/
theorem wp_region_inv {P : Program} {ops : Array Oper} {Q : Exit → Act → World → Prop} {id : Nat} {a : Act} {w : World} (I : Array Bool → Act → World → Prop) (hm : P.follows .mixedOrders = true) (hd : edgesDown .any ops = true)
    (h0 : I (Array.replicate ops.size false) a w.drew)
    (hstep : ∀ i o, ops[i]? = some o → ∀ listed a w, listed.size = ops.size → I listed a w → listed.getD i true = false → (∀ e ∈ o.after, Region.binds .any e = true → listed.getD e.on false = true) →
      ∀ K : Act → World → Prop, Shut (∀ a w, I (listed.setIfInBounds i true) a w → K a w) → if Region.wanted o (yielded ops a.tmps) = true then Oper.wp P o a w K Q else K (a.put o.dst undef) w)
    (hend : ∀ listed a w, listed.size = ops.size → I listed a w → (∀ i, i < ops.size → listed.getD i true = true) → Q .normal a w) : (Code.region id ops true).wp P Q a w := by
  refine wp_region_any hm (wpAny_inv I hd ?_ hend ops.size _ a w.drew (by simp) (by simp) h0)
  intro listed a w hs hI i hi
  obtain ⟨hun, o, ho, hall⟩ := mem_ready.1 hi
  exact wpOp_step ho (fun K hK => hstep i o ho listed a w hs hI hun hall K hK)

/-- six slots set -/
def put6 (a : Act) (d1 d2 d3 d4 d5 d6 : Tmp) (v1 v2 v3 v4 v5 v6 : Value) : Act := (((((a.put (some d1) v1).put (some d2) v2).put (some d3) v3).put (some d4) v4).put (some d5) v5).put (some d6) v6
/-- the rule with six slots that vary -/
theorem wp_region_inv6 {P : Program} {ops : Array Oper} {Q : Exit → Act → World → Prop} {id : Nat} {a0 : Act} {w : World} (d1 d2 d3 d4 d5 d6 : Tmp) (v1 v2 v3 v4 v5 v6 : Value)
    (J : Array Bool → Value → Value → Value → Value → Value → Value → World → Prop) (hm : P.follows .mixedOrders = true) (hd : edgesDown .any ops = true)
    (he : a0 = put6 a0 d1 d2 d3 d4 d5 d6 v1 v2 v3 v4 v5 v6) (h0 : J (Array.replicate ops.size false) v1 v2 v3 v4 v5 v6 w.drew)
    (hstep : ∀ i o, ops[i]? = some o → ∀ listed s1 s2 s3 s4 s5 s6 w, listed.size = ops.size → J listed s1 s2 s3 s4 s5 s6 w → listed.getD i false = false → (∀ e ∈ o.after, Region.binds .any e = true → listed.getD e.on false = true) →
      ∀ K : Act → World → Prop, Shut (∀ t1 t2 t3 t4 t5 t6 w, J (listed.setIfInBounds i true) t1 t2 t3 t4 t5 t6 w → K (put6 a0 d1 d2 d3 d4 d5 d6 t1 t2 t3 t4 t5 t6) w) →
      if Region.wanted o (yielded ops (put6 a0 d1 d2 d3 d4 d5 d6 s1 s2 s3 s4 s5 s6).tmps) = true then Oper.wp P o (put6 a0 d1 d2 d3 d4 d5 d6 s1 s2 s3 s4 s5 s6) w K Q else K ((put6 a0 d1 d2 d3 d4 d5 d6 s1 s2 s3 s4 s5 s6).put o.dst undef) w)
    (hend : ∀ listed s1 s2 s3 s4 s5 s6 w, listed.size = ops.size → J listed s1 s2 s3 s4 s5 s6 w → (∀ i, i < ops.size → listed.getD i true = true) → Q .normal (put6 a0 d1 d2 d3 d4 d5 d6 s1 s2 s3 s4 s5 s6) w) : (Code.region id ops true).wp P Q a0 w := by
  refine wp_region_inv (fun L a w => ∃ s1 s2 s3 s4 s5 s6, a = put6 a0 d1 d2 d3 d4 d5 d6 s1 s2 s3 s4 s5 s6 ∧ J L s1 s2 s3 s4 s5 s6 w) hm hd ⟨_, _, _, _, _, _, he, h0⟩ ?_ ?_
  · rintro i o ho L a w hs ⟨s1, s2, s3, s4, s5, s6, rfl, hJ⟩ hun hall K hK
    refine hstep i o ho L s1 s2 s3 s4 s5 s6 w hs hJ ?_ hall K (fun t1 t2 t3 t4 t5 t6 w h => hK.out _ _ ⟨_, _, _, _, _, _, rfl, h⟩)
    by_cases hi : i < L.size
    · simpa [Array.getD, hi] using hun
    · simp [Array.getD, hi]
  · rintro L a w hs ⟨s1, s2, s3, s4, s5, s6, rfl, hJ⟩ hall
    exact hend L s1 s2 s3 s4 s5 s6 w hs hJ hall

end Go.Proofs.Ytlijekppbpefaaa
/- 'x, y := copied(a), copied(b)': what holds of the frame and the world, whatever has come up of the statement. -/
namespace Go.Proofs.Ytlijekppbpefaaa
open Go.RowKit Big

theorem Two.drew {w : World} {g : Nat} {a b c d : Value} (h : Two w g a b c d) : Two w.drew g a b c d := ⟨h.c00, h.c01, h.c10, h.c11, h.lt⟩
theorem Two.set {w : World} {g : Nat} {a b c d : Value} (h : Two w g a b c d) (x j : Nat) (u : Value) (hx : g + 1 < x) : Two (w.setCell ⟨x, j, none⟩ u) g a b c d :=
  ⟨(World.cell?_of_block (w := w) (Below.heap_setCell w _ u g (by show g ≠ x; omega))).trans h.c00, (World.cell?_of_block (w := w) (Below.heap_setCell w _ u g (by show g ≠ x; omega))).trans h.c01,
   (World.cell?_of_block (w := w) (Below.heap_setCell w _ u (g + 1) (by show g + 1 ≠ x; omega))).trans h.c10, (World.cell?_of_block (w := w) (Below.heap_setCell w _ u (g + 1) (by show g + 1 ≠ x; omega))).trans h.c11, by simpa [World.setCell] using h.lt⟩
theorem four_cells {w : World} {g : Nat} {a b c d : Value} {t : TypeId} (h : w.heap[g]? = some (.cells #[a, b, c, d] t (0, 0))) :
    w.cell? ⟨g, 0, none⟩ = some a ∧ w.cell? ⟨g, 1, none⟩ = some b ∧ w.cell? ⟨g, 2, none⟩ = some c ∧ w.cell? ⟨g, 3, none⟩ = some d :=
  ⟨by rw [cell_of_row w g 0 _ t (0, 0) h]; rfl, by rw [cell_of_row w g 1 _ t (0, 0) h]; rfl, by rw [cell_of_row w g 2 _ t (0, 0) h]; rfl, by rw [cell_of_row w g 3 _ t (0, 0) h]; rfl⟩

theorem Below.go {u w w' : World} (hb : Below w.heap.size w w') (h : Below u.heap.size u w) : Below u.heap.size u w' := h.trans (hb.mono h.size)
/-- a value is a number's copy -/
def Cop (w : World) (n : Bool) (l : List Nat) (v : Value) : Prop := ∃ q k, v = .agg #[.bool n, .slice q l.length k] ∧ At w .u64 (.slice q l.length k) l
theorem Cop.below {w w' : World} {n : Bool} {l : List Nat} {v : Value} (h : Cop w n l v) (hb : Below w.heap.size w w') : Cop w' n l v := by
  obtain ⟨q, k, rfl, ha⟩ := h
  exact ⟨q, k, rfl, ha.below hb⟩
/-- a pointer to a variable of a number, from block B on -/
def VarAt (w : World) (B : Nat) (v : Value) : Prop := ∃ g, v = .pointer (some ⟨g, 0, none⟩) ∧ Pair w g 25 ∧ B ≤ g
theorem VarAt.below {w w' : World} {B : Nat} {v : Value} (h : VarAt w B v) (hb : Below w.heap.size w w') : VarAt w' B v := by
  obtain ⟨g, rfl, hp, hB⟩ := h
  exact ⟨g, rfl, hp.below hb, hB⟩
/-- .. which holds the number's copy -/
def Holds (w : World) (n : Bool) (l : List Nat) (v : Value) : Prop :=
  ∃ g q k, v = .pointer (some ⟨g, 0, none⟩) ∧ w.heap[g]? = some (.cells #[.bool n, .slice q l.length k] 25 (0, 0)) ∧ At w .u64 (.slice q l.length k) l

structure C2 (g0 : Nat) (n0 n1 : Bool) (p0 p1 : Option Addr) (c0 c1 : Nat) (l0 l1 : List Nat) (B : Nat) (u : World) (L : Array Bool) (s5 s6 s15 s16 s17 s18 : Value) (w : World) : Prop where
  two : Two w g0 (.bool n0) (.slice p0 l0.length c0) (.bool n1) (.slice p1 l1.length c1)
  low : g0 + 2 ≤ B
  bel : Below B u w
  sz : B ≤ w.heap.size
  a0 : At w .u64 (.slice p0 l0.length c0) l0
  a1 : At w .u64 (.slice p1 l1.length c1) l1
  f0 : L.getD 0 false = true → s15 = .agg #[.bool n0, .slice p0 l0.length c0]
  f1 : L.getD 1 false = true → Cop w n0 l0 s16
  f2 : L.getD 2 false = true → s17 = .agg #[.bool n1, .slice p1 l1.length c1]
  f3 : L.getD 3 false = true → Cop w n1 l1 s18
  f4 : L.getD 4 false = true → VarAt w B s5
  f5 : L.getD 5 false = true → VarAt w B s6
  f45 : L.getD 4 false = true → L.getD 5 false = true → s5 ≠ s6
  f6 : L.getD 6 false = true → Holds w n0 l0 s5
  f7 : L.getD 7 false = true → Holds w n1 l1 s6
  d6 : L.getD 6 false = true → L.getD 4 false = true ∧ L.getD 5 false = true
  d7 : L.getD 7 false = true → L.getD 6 false = true

section
variable {g0 : Nat} {n0 n1 : Bool} {p0 p1 : Option Addr} {c0 c1 : Nat} {l0 l1 : List Nat} {B : Nat} {u : World} {L : Array Bool} {s5 s6 s15 s16 s17 s18 : Value} {w : World}
theorem setD {L : Array Bool} {i j : Nat} (h : i ≠ j) (hh : (L.setIfInBounds i true).getD j false = true) : L.getD j false = true := by rwa [getD_set_ne false h] at hh
theorem setUp {L : Array Bool} {i j : Nat} (h : L.getD j false = true) : (L.setIfInBounds i true).getD j false = true := getD_set_true h
theorem C2.load0 (h : C2 g0 n0 n1 p0 p1 c0 c1 l0 l1 B u L s5 s6 s15 s16 s17 s18 w) : C2 g0 n0 n1 p0 p1 c0 c1 l0 l1 B u (L.setIfInBounds 0 true) s5 s6 (.agg #[.bool n0, .slice p0 l0.length c0]) s16 s17 s18 w :=
  { h with
    f0 := fun _ => rfl
    f1 := fun hj => h.f1 (setD (by decide) hj)
    f2 := fun hj => h.f2 (setD (by decide) hj)
    f3 := fun hj => h.f3 (setD (by decide) hj)
    f4 := fun hj => h.f4 (setD (by decide) hj)
    f5 := fun hj => h.f5 (setD (by decide) hj)
    f45 := fun hj hk => h.f45 (setD (by decide) hj) (setD (by decide) hk)
    f6 := fun hj => h.f6 (setD (by decide) hj)
    f7 := fun hj => h.f7 (setD (by decide) hj)
    d6 := fun hj => ⟨setUp (h.d6 (setD (by decide) hj)).1, setUp (h.d6 (setD (by decide) hj)).2⟩
    d7 := fun hj => setUp (h.d7 (setD (by decide) hj)) }
theorem C2.load2 (h : C2 g0 n0 n1 p0 p1 c0 c1 l0 l1 B u L s5 s6 s15 s16 s17 s18 w) : C2 g0 n0 n1 p0 p1 c0 c1 l0 l1 B u (L.setIfInBounds 2 true) s5 s6 s15 s16 (.agg #[.bool n1, .slice p1 l1.length c1]) s18 w :=
  { h with
    f0 := fun hj => h.f0 (setD (by decide) hj)
    f1 := fun hj => h.f1 (setD (by decide) hj)
    f2 := fun _ => rfl
    f3 := fun hj => h.f3 (setD (by decide) hj)
    f4 := fun hj => h.f4 (setD (by decide) hj)
    f5 := fun hj => h.f5 (setD (by decide) hj)
    f45 := fun hj hk => h.f45 (setD (by decide) hj) (setD (by decide) hk)
    f6 := fun hj => h.f6 (setD (by decide) hj)
    f7 := fun hj => h.f7 (setD (by decide) hj)
    d6 := fun hj => ⟨setUp (h.d6 (setD (by decide) hj)).1, setUp (h.d6 (setD (by decide) hj)).2⟩
    d7 := fun hj => setUp (h.d7 (setD (by decide) hj)) }
theorem Holds.below {w w' : World} {n : Bool} {l : List Nat} {v : Value} (h : Holds w n l v) (hb : Below w.heap.size w w') : Holds w' n l v := by
  obtain ⟨g, q, k, rfl, hg, ha⟩ := h
  exact ⟨g, q, k, rfl, (hb.block g (Array.getElem?_eq_some_iff.1 hg).1).trans hg, ha.below hb⟩
theorem C2.call1 (h : C2 g0 n0 n1 p0 p1 c0 c1 l0 l1 B u L s5 s6 s15 s16 s17 s18 w) {w' : World} {v : Value} (hb : Below w.heap.size w w') (hv : Cop w' n0 l0 v) :
    C2 g0 n0 n1 p0 p1 c0 c1 l0 l1 B u (L.setIfInBounds 1 true) s5 s6 s15 v s17 s18 w' :=
  { two := h.two.below hb
    low := h.low
    bel := h.bel.trans (hb.mono h.sz)
    sz := Nat.le_trans h.sz hb.size
    a0 := h.a0.below hb
    a1 := h.a1.below hb
    f0 := fun hj => h.f0 (setD (by decide) hj)
    f1 := fun _ => hv
    f2 := fun hj => h.f2 (setD (by decide) hj)
    f3 := fun hj => (h.f3 (setD (by decide) hj)).below hb
    f4 := fun hj => (h.f4 (setD (by decide) hj)).below hb
    f5 := fun hj => (h.f5 (setD (by decide) hj)).below hb
    f45 := fun hj hk => h.f45 (setD (by decide) hj) (setD (by decide) hk)
    f6 := fun hj => (h.f6 (setD (by decide) hj)).below hb
    f7 := fun hj => (h.f7 (setD (by decide) hj)).below hb
    d6 := fun hj => ⟨setUp (h.d6 (setD (by decide) hj)).1, setUp (h.d6 (setD (by decide) hj)).2⟩
    d7 := fun hj => setUp (h.d7 (setD (by decide) hj)) }
theorem C2.call3 (h : C2 g0 n0 n1 p0 p1 c0 c1 l0 l1 B u L s5 s6 s15 s16 s17 s18 w) {w' : World} {v : Value} (hb : Below w.heap.size w w') (hv : Cop w' n1 l1 v) :
    C2 g0 n0 n1 p0 p1 c0 c1 l0 l1 B u (L.setIfInBounds 3 true) s5 s6 s15 s16 s17 v w' :=
  { two := h.two.below hb
    low := h.low
    bel := h.bel.trans (hb.mono h.sz)
    sz := Nat.le_trans h.sz hb.size
    a0 := h.a0.below hb
    a1 := h.a1.below hb
    f0 := fun hj => h.f0 (setD (by decide) hj)
    f1 := fun hj => (h.f1 (setD (by decide) hj)).below hb
    f2 := fun hj => h.f2 (setD (by decide) hj)
    f3 := fun _ => hv
    f4 := fun hj => (h.f4 (setD (by decide) hj)).below hb
    f5 := fun hj => (h.f5 (setD (by decide) hj)).below hb
    f45 := fun hj hk => h.f45 (setD (by decide) hj) (setD (by decide) hk)
    f6 := fun hj => (h.f6 (setD (by decide) hj)).below hb
    f7 := fun hj => (h.f7 (setD (by decide) hj)).below hb
    d6 := fun hj => ⟨setUp (h.d6 (setD (by decide) hj)).1, setUp (h.d6 (setD (by decide) hj)).2⟩
    d7 := fun hj => setUp (h.d7 (setD (by decide) hj)) }
theorem VarAt.ne {w : World} {v : Value} {B : Nat} (h : VarAt w B v) : v ≠ .pointer (some ⟨w.heap.size, 0, none⟩) := by
  obtain ⟨g, rfl, hp, -⟩ := h
  intro he
  have hl := hp.lt
  injection he with he
  injection he with he
  injection he with he
  omega
theorem C2.alloc4 (h : C2 g0 n0 n1 p0 p1 c0 c1 l0 l1 B u L s5 s6 s15 s16 s17 s18 w) (hu : L.getD 4 false = false) :
    C2 g0 n0 n1 p0 p1 c0 c1 l0 l1 B u (L.setIfInBounds 4 true) (.pointer (some ⟨w.heap.size, 0, none⟩)) s6 s15 s16 s17 s18 (w.alloc (.cells #[.bool false, .slice none 0 0] 25)) :=
  have hb := below1 w (.cells #[.bool false, .slice none 0 0] 25)
  { two := h.two.below hb
    low := h.low
    bel := h.bel.trans (hb.mono h.sz)
    sz := Nat.le_trans h.sz hb.size
    a0 := h.a0.below hb
    a1 := h.a1.below hb
    f0 := fun hj => h.f0 (setD (by decide) hj)
    f1 := fun hj => (h.f1 (setD (by decide) hj)).below hb
    f2 := fun hj => h.f2 (setD (by decide) hj)
    f3 := fun hj => (h.f3 (setD (by decide) hj)).below hb
    f4 := fun _ => ⟨_, rfl, Pair.new .., h.sz⟩
    f5 := fun hj => (h.f5 (setD (by decide) hj)).below hb
    f45 := fun _ hk => ((h.f5 (setD (by decide) hk)).ne).symm
    f6 := fun hj => by have := (h.d6 (setD (by decide) hj)).1; rw [hu] at this; cases this
    f7 := fun hj => by have := (h.d6 (h.d7 (setD (by decide) hj))).1; rw [hu] at this; cases this
    d6 := fun hj => ⟨setUp (h.d6 (setD (by decide) hj)).1, setUp (h.d6 (setD (by decide) hj)).2⟩
    d7 := fun hj => setUp (h.d7 (setD (by decide) hj)) }
theorem C2.alloc5 (h : C2 g0 n0 n1 p0 p1 c0 c1 l0 l1 B u L s5 s6 s15 s16 s17 s18 w) (hu : L.getD 5 false = false) :
    C2 g0 n0 n1 p0 p1 c0 c1 l0 l1 B u (L.setIfInBounds 5 true) s5 (.pointer (some ⟨w.heap.size, 0, none⟩)) s15 s16 s17 s18 (w.alloc (.cells #[.bool false, .slice none 0 0] 25)) :=
  have hb := below1 w (.cells #[.bool false, .slice none 0 0] 25)
  { two := h.two.below hb
    low := h.low
    bel := h.bel.trans (hb.mono h.sz)
    sz := Nat.le_trans h.sz hb.size
    a0 := h.a0.below hb
    a1 := h.a1.below hb
    f0 := fun hj => h.f0 (setD (by decide) hj)
    f1 := fun hj => (h.f1 (setD (by decide) hj)).below hb
    f2 := fun hj => h.f2 (setD (by decide) hj)
    f3 := fun hj => (h.f3 (setD (by decide) hj)).below hb
    f4 := fun hj => (h.f4 (setD (by decide) hj)).below hb
    f5 := fun _ => ⟨_, rfl, Pair.new .., h.sz⟩
    f45 := fun hj _ => (h.f4 (setD (by decide) hj)).ne
    f6 := fun hj => by have := (h.d6 (setD (by decide) hj)).2; rw [hu] at this; cases this
    f7 := fun hj => by have := (h.d6 (h.d7 (setD (by decide) hj))).2; rw [hu] at this; cases this
    d6 := fun hj => ⟨setUp (h.d6 (setD (by decide) hj)).1, setUp (h.d6 (setD (by decide) hj)).2⟩
    d7 := fun hj => setUp (h.d7 (setD (by decide) hj)) }
theorem Cop.stored {w : World} {n : Bool} {l : List Nat} {v : Value} (h : Cop w n l v) {g : Nat} {t : TypeId} (hp : Pair w g t) (x : Bool) (p : Option Addr) (m c : Nat) :
    Cop ((w.setCell ⟨g, 0, none⟩ (.bool x)).setCell ⟨g, 1, none⟩ (.slice p m c)) n l v := by
  obtain ⟨q, k, rfl, ha⟩ := h
  exact ⟨q, k, rfl, ha.stored hp x p m c⟩
theorem Pair.apart {w : World} {g g' : Nat} {t : TypeId} (h : Pair w g t) (hne : g ≠ g') (u u' : Value) : Pair ((w.setCell ⟨g', 0, none⟩ u).setCell ⟨g', 1, none⟩ u') g t := by
  obtain ⟨x, p, n, c, h⟩ := h
  exact ⟨x, p, n, c, ((Below.heap_setCell _ _ _ _ hne).trans (Below.heap_setCell _ _ _ _ hne)).trans h⟩
theorem Pair.self {w : World} {g : Nat} {t : TypeId} (h : Pair w g t) (x : Bool) (p : Option Addr) (n c : Nat) : Pair ((w.setCell ⟨g, 0, none⟩ (.bool x)).setCell ⟨g, 1, none⟩ (.slice p n c)) g t := (h.set0 x).set1 p n c
theorem VarAt.stored {w : World} {B : Nat} {v : Value} (h : VarAt w B v) {g : Nat} (hp : Pair w g 25) (x : Bool) (p : Option Addr) (n c : Nat) : VarAt ((w.setCell ⟨g, 0, none⟩ (.bool x)).setCell ⟨g, 1, none⟩ (.slice p n c)) B v := by
  obtain ⟨g', rfl, hp', hB⟩ := h
  refine ⟨g', rfl, ?_, hB⟩
  by_cases he : g' = g
  · subst he; exact hp'.self x p n c
  · exact hp'.apart he _ _
theorem Pair.put {w : World} {g : Nat} {t : TypeId} (h : Pair w g t) (x : Bool) (p : Option Addr) (n c : Nat) : ((w.setCell ⟨g, 0, none⟩ (.bool x)).setCell ⟨g, 1, none⟩ (.slice p n c)).heap[g]? = some (.cells #[.bool x, .slice p n c] t (0, 0)) := by
  obtain ⟨y, p', n', c', h⟩ := h
  have h1 := heap_setCell_same w g 0 _ t (.bool x) h
  exact heap_setCell_same _ g 1 _ t (.slice p n c) h1
theorem size_stored (w : World) (g : Nat) (u u' : Value) : ((w.setCell ⟨g, 0, none⟩ u).setCell ⟨g, 1, none⟩ u').heap.size = w.heap.size := by simp [World.setCell]
theorem C2.store6 (h : C2 g0 n0 n1 p0 p1 c0 c1 l0 l1 B u L s5 s6 s15 s16 s17 s18 w) (h4 : L.getD 4 false = true) (h5 : L.getD 5 false = true) (hu : L.getD 6 false = false) {g : Nat} {q : Option Addr} {k : Nat}
    (e5 : s5 = .pointer (some ⟨g, 0, none⟩)) (hp : Pair w g 25) (hB : B ≤ g) (ha : At w .u64 (.slice q l0.length k) l0) :
    C2 g0 n0 n1 p0 p1 c0 c1 l0 l1 B u (L.setIfInBounds 6 true) s5 s6 s15 s16 s17 s18 ((w.setCell ⟨g, 0, none⟩ (.bool n0)).setCell ⟨g, 1, none⟩ (.slice q l0.length k)) :=
  { two := (h.two.set g 0 _ (by have := h.low; omega)).set g 1 _ (by have := h.low; omega)
    low := h.low
    bel := Below.stored h.bel hB _ _
    sz := by rw [size_stored]; exact h.sz
    a0 := h.a0.stored hp ..
    a1 := h.a1.stored hp ..
    f0 := fun hj => h.f0 (setD (by decide) hj)
    f1 := fun hj => (h.f1 (setD (by decide) hj)).stored hp ..
    f2 := fun hj => h.f2 (setD (by decide) hj)
    f3 := fun hj => (h.f3 (setD (by decide) hj)).stored hp ..
    f4 := fun hj => (h.f4 (setD (by decide) hj)).stored hp ..
    f5 := fun hj => (h.f5 (setD (by decide) hj)).stored hp ..
    f45 := fun hj hk => h.f45 (setD (by decide) hj) (setD (by decide) hk)
    f6 := fun _ => ⟨g, q, k, e5, hp.put .., ha.stored hp ..⟩
    f7 := fun hj => by have := h.d7 (setD (by decide) hj); rw [hu] at this; cases this
    d6 := fun _ => ⟨setUp h4, setUp h5⟩
    d7 := fun hj => setUp (h.d7 (setD (by decide) hj)) }
theorem C2.store7 (h : C2 g0 n0 n1 p0 p1 c0 c1 l0 l1 B u L s5 s6 s15 s16 s17 s18 w) (h6 : L.getD 6 false = true) {g : Nat} {q : Option Addr} {k : Nat}
    (e6 : s6 = .pointer (some ⟨g, 0, none⟩)) (hp : Pair w g 25) (hB : B ≤ g) (ha : At w .u64 (.slice q l1.length k) l1) :
    C2 g0 n0 n1 p0 p1 c0 c1 l0 l1 B u (L.setIfInBounds 7 true) s5 s6 s15 s16 s17 s18 ((w.setCell ⟨g, 0, none⟩ (.bool n1)).setCell ⟨g, 1, none⟩ (.slice q l1.length k)) :=
  { two := (h.two.set g 0 _ (by have := h.low; omega)).set g 1 _ (by have := h.low; omega)
    low := h.low
    bel := Below.stored h.bel hB _ _
    sz := by rw [size_stored]; exact h.sz
    a0 := h.a0.stored hp ..
    a1 := h.a1.stored hp ..
    f0 := fun hj => h.f0 (setD (by decide) hj)
    f1 := fun hj => (h.f1 (setD (by decide) hj)).stored hp ..
    f2 := fun hj => h.f2 (setD (by decide) hj)
    f3 := fun hj => (h.f3 (setD (by decide) hj)).stored hp ..
    f4 := fun hj => (h.f4 (setD (by decide) hj)).stored hp ..
    f5 := fun hj => (h.f5 (setD (by decide) hj)).stored hp ..
    f45 := fun hj hk => h.f45 (setD (by decide) hj) (setD (by decide) hk)
    f6 := fun hj => by
      have hd := h.d6 h6
      have hne := h.f45 hd.1 hd.2
      obtain ⟨g', q', k', e', hg', ha'⟩ := h.f6 h6
      have hgg : g' ≠ g := by rintro rfl; exact hne (e'.trans e6.symm)
      exact ⟨g', q', k', e', ((Below.heap_setCell _ _ _ _ hgg).trans (Below.heap_setCell _ _ _ _ hgg)).trans hg', ha'.stored hp ..⟩
    f7 := fun _ => ⟨g, q, k, e6, hp.put .., ha.stored hp ..⟩
    d6 := fun _ => ⟨setUp (h.d6 h6).1, setUp (h.d6 h6).2⟩
    d7 := fun _ => setUp h6 }
/-- all has come up -/
structure Done2 (g0 : Nat) (n0 n1 : Bool) (p0 p1 : Option Addr) (c0 c1 : Nat) (l0 l1 : List Nat) (B : Nat) (u : World) (s5 s6 : Value) (w : World) : Prop where
  two : Two w g0 (.bool n0) (.slice p0 l0.length c0) (.bool n1) (.slice p1 l1.length c1)
  bel : Below B u w
  sz : B ≤ w.heap.size
  a0 : At w .u64 (.slice p0 l0.length c0) l0
  a1 : At w .u64 (.slice p1 l1.length c1) l1
  hx : Holds w n0 l0 s5
  hy : Holds w n1 l1 s6
theorem C2.done (h : C2 g0 n0 n1 p0 p1 c0 c1 l0 l1 B u L s5 s6 s15 s16 s17 s18 w) (h6 : L.getD 6 false = true) (h7 : L.getD 7 false = true) : Done2 g0 n0 n1 p0 p1 c0 c1 l0 l1 B u s5 s6 w :=
  { h with hx := h.f6 h6, hy := h.f7 h7 }
theorem C2.start {g0 : Nat} {n0 n1 : Bool} {p0 p1 : Option Addr} {c0 c1 : Nat} {l0 l1 : List Nat} {w : World} {s5 s6 s15 s16 s17 s18 : Value} (ht : Two w g0 (.bool n0) (.slice p0 l0.length c0) (.bool n1) (.slice p1 l1.length c1))
    (ha : At w .u64 (.slice p0 l0.length c0) l0) (hb : At w .u64 (.slice p1 l1.length c1) l1) : C2 g0 n0 n1 p0 p1 c0 c1 l0 l1 w.heap.size w (Array.replicate 8 false) s5 s6 s15 s16 s17 s18 w.drew :=
  { two := ht.drew, low := ht.lt, bel := Below.drew (Below.refl _ _), sz := Nat.le_refl _, a0 := ha.drew, a1 := hb.drew
    f0 := fun h => by simp at h
    f1 := fun h => by simp at h
    f2 := fun h => by simp at h
    f3 := fun h => by simp at h
    f4 := fun h => by simp at h
    f5 := fun h => by simp at h
    f45 := fun h => by simp at h
    f6 := fun h => by simp at h
    f7 := fun h => by simp at h
    d6 := fun h => by simp at h
    d7 := fun h => by simp at h }
theorem listed_of {L : Array Bool} {n i : Nat} (h : ∀ i, i < n → L.getD i true = true) (hs : L.size = n) (hi : i < n) : L.getD i false = true := by
  have := h i hi
  have hl : i < L.size := by omega
  simpa [Array.getD, hl] using this
end
end Go.Proofs.Ytlijekppbpefaaa
/- whole.times and whole.Mul. -/
namespace Go.Proofs.Ytlijekppbpefaaa
open Go.RowKit Big

set_option maxHeartbeats 800000 in
theorem fits_yes (v : Value) (n : Nat) (w : World) (h : At w .u64 v (dig W n)) (hn : n < H) : Calls Try.prog 71 #[v] w (fun e w' => e = .returned (.bool true) ∧ w = w') := by
  have hw : n < W := Nat.lt_trans hn (by decide)
  have g := word_any v _ w h
  rw [head_dig hw] at g
  have G := hid g; clear g
  have hl : (dig W n).length ≤ 1 := sz_word hw
  obtain ⟨p, c, rfl, -⟩ := h
  generalize (dig W n).length = k at *
  unfold H at hn
  clear hw
  have h0 : (n : Int) / 4294967296 = 0 := by omega
  go_enter Try.func71, Try.ntmps71
  go_wp2_with (go_at_call 57; refine G.out.mono ?_; rintro e w' ⟨rfl, rfl⟩)
  go_ret
  exact ⟨rfl, rfl⟩
set_option maxHeartbeats 800000 in
theorem fits_no (v : Value) (n : Nat) (w : World) (h : At w .u64 v (dig W n)) (hn : H ≤ n) : Calls Try.prog 71 #[v] w (fun e w' => e = .returned (.bool false) ∧ w = w') := by
  by_cases hw : n < W
  · have g := word_any v _ w h
    rw [head_dig hw] at g
    have G := hid g; clear g
    have hl : (dig W n).length ≤ 1 := sz_word hw
    obtain ⟨p, c, rfl, -⟩ := h
    generalize (dig W n).length = k at *
    unfold H at hn
    unfold W at hw
    have h0 : ((n : Int) / 4294967296 == 0) = false := beq_eq_false_iff_ne.2 (by omega)
    go_enter Try.func71, Try.ntmps71
    go_wp2_with (go_at_call 57; refine G.out.mono ?_; rintro e w' ⟨rfl, rfl⟩)
    go_ret
    exact ⟨rfl, rfl⟩
  · have hl : ¬ (dig W n).length ≤ 1 := fun e => hw (Nat.lt_of_lt_of_le (lt_pow_sz W2 n) (Nat.le_trans (Nat.pow_le_pow_right (by decide) (show sz W n ≤ 1 from e)) (by simp)))
    obtain ⟨p, c, rfl, -⟩ := h
    generalize (dig W n).length = k at *
    have hd : decide ((k : Int) ≤ 1) = false := decide_eq_false (by omega)
    clear hn hw
    go_enter Try.func71, Try.ntmps71
    go_wp2_with fail
    go_ret
    exact ⟨rfl, rfl⟩

theorem sz_H_W (n : Nat) : sz H n ≤ 2 * sz W n := by
  refine sz_le_of_lt H2 ?_
  rw [Nat.pow_mul, show H ^ 2 = W from rfl]
  exact lt_pow_sz W2 n

set_option maxRecDepth 100000 in
set_option maxHeartbeats 1600000 in
theorem times_any (v0 v1 : Value) (n m : Nat) (w : World) (h0 : At w .u64 v0 (dig W n)) (h1 : At w .u64 v1 (dig W m)) (b0 : sz W n ≤ 549755813888) (b1 : sz W m ≤ 549755813888) :
    Calls Try.prog 54 #[v0, v1] w (RAt .u64 (dig W (n * m)) w) := by
  by_cases hs : n < H ∧ m < H
  · obtain ⟨hn, hm⟩ := hs
    have f0 := hid (fits_yes v0 n w h0 hn)
    have f1 := hid (fits_yes v1 m w h1 hm)
    have wn : n < W := Nat.lt_trans hn (by decide)
    have wm : m < W := Nat.lt_trans hm (by decide)
    have g0 := word_any v0 _ w h0
    have g1 := word_any v1 _ w h1
    rw [head_dig wn] at g0
    rw [head_dig wm] at g1
    have G0 := hid g0; have G1 := hid g1
    have hp : n * m < W := by
      have : n * m ≤ 4294967295 * 4294967295 := Nat.mul_le_mul (by unfold H at hn; omega) (by unfold H at hm; omega)
      unfold W; omega
    have hw : IntKind.u64.wrap ((n : Int) * (m : Int)) = ((n * m : Nat) : Int) := by rw [← Int.natCast_mul]; exact wrap_nat _ hp
    have hO := ownWord_any (n * m) w hp
    have HO := hid hO; have Hw := hid hw
    clear g0 g1 hw hO hp hn hm wn wm b0 b1 h0 h1
    go_enter Try.func54, Try.ntmps54
    go_wp2_with fail
    refine f0.out.mono ?_
    rintro e w' ⟨rfl, rfl⟩
    go_wp2_with fail
    refine f1.out.mono ?_
    rintro e w' ⟨rfl, rfl⟩
    go_wp2_with fail
    refine G0.out.mono ?_
    rintro e w' ⟨rfl, rfl⟩
    go_wp2_with fail
    refine G1.out.mono ?_
    rintro e w' ⟨rfl, rfl⟩
    go_wp2_with fail
    rw [Hw.out]
    refine HO.out.mono ?_
    rintro e w1 ⟨v, rfl, hv, hb⟩
    go_wp2_with fail
    go_ret
    exact ⟨_, rfl, hv, hb⟩
  · have hb0 : sz H n ≤ 1099511627776 := Nat.le_trans (sz_H_W n) (by omega)
    have hb1 : sz H m ≤ 1099511627776 := Nat.le_trans (sz_H_W m) (by omega)
    have hb2 : sz H (n * m) ≤ 2199023255552 := Nat.le_trans (sz_mul H2 n m) (by omega)
    have s0 := split_any v0 (dig W n) w h0 (small_dig W2 n) (by have : (dig W n).length = sz W n := rfl; omega)
    rw [val_dig W2] at s0
    have s1 : ∀ W', Below w.heap.size w W' → Calls Try.prog 59 #[v1] W' (ROwn 90 .u32 (dig H m) W') := fun W' hb => by
      have := split_any v1 (dig W m) W' (h1.below hb) (small_dig W2 m) (by have : (dig W m).length = sz W m := rfl; omega)
      rwa [val_dig W2] at this
    have th : ∀ W' u u', At W' .u32 u (dig H n) → At W' .u32 u' (dig H m) → Calls Try.prog 72 #[u, u'] W' (ROwn 90 .u32 (dig H (n * m)) W') := fun W' u u' hu hu' => by
      have := timesHalves_any u u' _ _ W' hu hu' (small_dig H2 n) (small_dig H2 m) (by have : (dig H n).length = sz H n := rfl; omega) (by have : (dig H m).length = sz H m := rfl; omega)
      rwa [val_dig H2, val_dig H2] at this
    have S0 := hid s0; have S1 := hid s1; have Th := hid th
    have f0 : Hid (Calls Try.prog 71 #[v0] w (fun e w' => e = .returned (.bool (decide (n < H))) ∧ w = w')) := by
      unfold Hid
      by_cases hn : n < H
      · rw [decide_eq_true hn]; exact fits_yes v0 n w h0 hn
      · rw [decide_eq_false hn]; exact fits_no v0 n w h0 (Nat.le_of_not_lt hn)
    have f1 : n < H → Calls Try.prog 71 #[v1] w (fun e w' => e = .returned (.bool false) ∧ w = w') := fun hn => fits_no v1 m w h1 (Nat.le_of_not_lt fun hm => hs ⟨hn, hm⟩)
    have F1 := hid f1
    clear s0 s1 th hs f1 h0 h1 b0 b1 hb0 hb1
    by_cases hn : n < H
    · rw [decide_eq_true hn] at f0
      go_enter Try.func54, Try.ntmps54
      go_wp2_with fail
      refine f0.out.mono ?_
      rintro e w' ⟨rfl, rfl⟩
      go_wp2_with fail
      refine (F1.out hn).mono ?_
      rintro e w' ⟨rfl, rfl⟩
      go_wp2_with fail
      refine S0.out.mono ?_
      rintro e w1 ⟨u, rfl, hu, hu1⟩
      go_wp2_with fail
      refine (S1.out _ hu1).mono ?_
      rintro e w2 ⟨u', rfl, hu', hu2⟩
      go_wp2_with fail
      refine (Th.out _ _ _ (hu.at.below hu2) hu'.at).mono ?_
      rintro e w3 ⟨u3, rfl, hu3, hb3⟩
      go_wp2_with fail
      refine (join_any _ _ _ hu3.at (by omega)).mono ?_
      rintro e w4 ⟨u4, rfl, hu4, hb4⟩
      have hbel := hid (Below.go hb4 (Below.go hb3 (Below.go hu2 hu1)))
      clear hu1 hu2 hb3 hb4
      go_wp2_with fail
      go_ret
      exact ⟨_, rfl, hu4.at, hbel.out⟩
    · rw [decide_eq_false hn] at f0
      go_enter Try.func54, Try.ntmps54
      go_wp2_with fail
      refine f0.out.mono ?_
      rintro e w' ⟨rfl, rfl⟩
      go_wp2_with fail
      refine S0.out.mono ?_
      rintro e w1 ⟨u, rfl, hu, hu1⟩
      go_wp2_with fail
      refine (S1.out _ hu1).mono ?_
      rintro e w2 ⟨u', rfl, hu', hu2⟩
      go_wp2_with fail
      refine (Th.out _ _ _ (hu.at.below hu2) hu'.at).mono ?_
      rintro e w3 ⟨u3, rfl, hu3, hb3⟩
      go_wp2_with fail
      refine (join_any _ _ _ hu3.at (by omega)).mono ?_
      rintro e w4 ⟨u4, rfl, hu4, hb4⟩
      have hbel := hid (Below.go hb4 (Below.go hb3 (Below.go hu2 hu1)))
      clear hu1 hu2 hb3 hb4
      go_wp2_with fail
      go_ret
      exact ⟨_, rfl, hu4.at, hbel.out⟩

theorem sg_mul (n0 n1 : Bool) (x y : Nat) : sg (n0 != n1) (x * y) = sg n0 x * sg n1 y := by
  unfold sg; cases n0 <;> cases n1 <;> simp [Int.neg_mul, Int.mul_neg]

set_option maxRecDepth 100000 in
set_option maxHeartbeats 1600000 in
theorem Mul_any (v0 v1 : Value) (a b : Int) (w : World) (h0 : RawAt w v0 a) (h1 : RawAt w v1 b) (ha : sz W a.natAbs ≤ 549755813888) (hb : sz W b.natAbs ≤ 549755813888) :
    Calls Try.prog 34 #[v0, v1] w (RInt (a * b) w) := by
  obtain ⟨n0, s0, l0, rfl, a0, b0, c0, rfl⟩ := h0
  obtain ⟨n1, s1, l1, rfl, a1, b1, c1, rfl⟩ := h1
  rw [sg_natAbs] at ha hb
  have t0 : ∀ W : World, At W .u64 s0 l0 → Calls Try.prog 41 #[s0] W (fun e w' => e = .returned (cutTo s0 (strip l0).length) ∧ w' = W) := fun W h => trim_val s0 l0 W h
  have t1 : ∀ W : World, At W .u64 s1 l1 → Calls Try.prog 41 #[s1] W (fun e w' => e = .returned (cutTo s1 (strip l1).length) ∧ w' = W) := fun W h => trim_val s1 l1 W h
  have T0 := hid t0; have T1 := hid t1; clear t0 t1
  have d0 := hid (strip_dig W2 b0)
  have d1 := hid (strip_dig W2 b1)
  obtain ⟨r, hr⟩ : ∃ r, r = sg n0 (val W l0) * sg n1 (val W l1) := ⟨_, rfl⟩
  rw [← hr]
  have Hr : Hid (sg (n0 != n1) (val W l0 * val W l1) = r) := by unfold Hid; rw [sg_mul, hr]
  clear hr
  go_enter Try.func34, Try.ntmps34
  go_wp2_with fail
  generalize hW : World.alloc (World.alloc (World.alloc w _) _) _ = W3
  have bw : Below w.heap.size w W3 := by rw [← hW]; exact ((below1 _ _).alloc (by simp) _).alloc (by simp; omega) _
  have hp : Pair W3 (w.heap.size + 1 + 1) 25 := by rw [← hW]; exact Pair.new2 ..
  obtain ⟨c00, c01, c10, c11, -⟩ : Two W3 w.heap.size (.bool n0) s0 (.bool n1) s1 := by rw [← hW]; exact (Two.new w _ _ _ _ _).below (below1 _ _)
  have z3 : w.heap.size + 3 ≤ W3.heap.size := by rw [← hW]; simp
  have A0 : ∀ W', Below W3.heap.size W3 W' → At W' .u64 (cutTo s0 (strip l0).length) (dig W (val W l0)) := fun W' h' => by have := ((a0.below bw).below h').strip; rwa [d0.out] at this ⊢
  have A1 : ∀ W', Below W3.heap.size W3 W' → At W' .u64 (cutTo s1 (strip l1).length) (dig W (val W l1)) := fun W' h' => by have := ((a1.below bw).below h').strip; rwa [d1.out] at this ⊢
  have HA0 := hid A0; have HA1 := hid A1; have bw' := hid bw; have a0' := hid (a0.below bw); have a1' := hid (a1.below bw)
  clear hW bw A0 A1 a0 a1
  generalize cutTo s0 (strip l0).length = u0 at *
  generalize cutTo s1 (strip l1).length = u1 at *
  generalize val W l0 = x at *
  generalize val W l1 = y at *
  clear d0 d1 b0 b1 c0 c1
  go_region_held3 (fun w' => w'.cell? ⟨w.heap.size, 0, none⟩ = some (.bool n0) ∧ w'.cell? ⟨w.heap.size, 1, none⟩ = some s0 ∧ w'.cell? ⟨w.heap.size + 1, 0, none⟩ = some (.bool n1) ∧ w'.cell? ⟨w.heap.size + 1, 1, none⟩ = some s1 ∧ Pair w' (w.heap.size + 1 + 1) 25)
    (first | (go_split_ands; (try dsimp only); (repeat' apply And.intro) <;> first | assumption | exact Pair.drew ‹_› | exact Pair.below ‹_› hb9 | exact Pair.below ‹_› hb8 | exact Pair.below ‹_› hb7 | exact Pair.below ‹_› hb6 | exact Pair.below ‹_› hb5 | exact Pair.below ‹_› hb4 | exact Pair.below ‹_› hb3 | exact Pair.below ‹_› hb2 | exact Pair.below ‹_› hb1 | exact (hb9.cell (by first | omega | (simp; omega) | (simp; done))).trans ‹_› | exact (hb8.cell (by first | omega | (simp; omega) | (simp; done))).trans ‹_› | exact (hb7.cell (by first | omega | (simp; omega) | (simp; done))).trans ‹_› | exact (hb6.cell (by first | omega | (simp; omega) | (simp; done))).trans ‹_› | exact (hb5.cell (by first | omega | (simp; omega) | (simp; done))).trans ‹_› | exact (hb4.cell (by first | omega | (simp; omega) | (simp; done))).trans ‹_› | exact (hb3.cell (by first | omega | (simp; omega) | (simp; done))).trans ‹_› | exact (hb2.cell (by first | omega | (simp; omega) | (simp; done))).trans ‹_› | exact (hb1.cell (by first | omega | (simp; omega) | (simp; done))).trans ‹_› | exact Pair.set1 (Pair.set0 ‹_› _) _ _ _ | exact (cell_stored _ (by first | (dsimp only; omega) | (simp; done) | (simp; omega)) _ _).trans ‹_› | exact Pair.drew (Pair.below ‹_› (below1 _ _)) | exact Pair.below ‹_› (below1 _ _) | exact Pair.far ‹_› (by omega) hb1 | exact Pair.new .. | exact Pair.new1 .. | exact Pair.new2 .. | (go_keep; done)) | (go_keep; done))
    (first
      | (go_at_call_of 41 (s0); refine (T0.out _ a0'.out.drew).mono ?_; rintro e w' ⟨rfl, rfl⟩)
      | (go_at_call_of 41 (s1); refine (T1.out _ a1'.out.drew).mono ?_; rintro e w' ⟨rfl, rfl⟩)
      | (go_at_call 54; refine (times_any u0 u1 x y _ (HA0.out _ (Below.drew (Below.refl _ _))) (HA1.out _ (Below.drew (Below.refl _ _))) ha hb).mono ?_; rintro e w1 ⟨v1, rfl, ho1, hb1⟩; have hz1 : w.heap.size + 3 ≤ w1.heap.size := (by have := hb1.size; simp at this; omega))
      | (go_at_call 45; refine (told_any (n0 != n1) _ _ _ ho1).mono ?_; rintro e w2 ⟨v2, rfl, hi2, hb2⟩; obtain ⟨p2, n2, c2, rfl, hi2⟩ := hi2.shape; have hpr := Pair.below (by go_split_ands; assumption) hb2; obtain ⟨_, _, q0, q1, q2, q3⟩ := hpr.cells))
  go_wp2
  exact bodyPost_ret (v := .agg #[.bool (decide (sg (n0 != n1) (x * y) < 0)), .slice p2 n2 c2]) (by simp [results, Try.results34, go_sem, q0, q1]) rfl
    ⟨_, rfl, by rw [← Hr.out]; exact hi2.stored hpr _ _ _ _, Below.stored ((bw'.out.drew.trans (hb1.mono (B' := w.heap.size) (by simp; omega))).trans (hb2.mono (B' := w.heap.size) (by omega))) (by omega) _ _⟩
end Go.Proofs.Ytlijekppbpefaaa
/- whole.guess. -/
namespace Go.Proofs.Ytlijekppbpefaaa
open Go.RowKit Big

/-- cells of a window of a row -/
def Win (w : World) (g off : Nat) (l : List Nat) : Prop := ∀ j (h : j < l.length), w.cell? ⟨g, off + j, none⟩ = some (.int .u32 (l[j]'h : Nat))

theorem val_top3 (B : Nat) (L : List Nat) (m : Nat) (h : L.length = m + 3) : val B L = val B (L.take m) + B ^ m * (L[m]'(by omega) + B * L[m + 1]'(by omega) + B * B * L[m + 2]'(by omega)) := by
  have e := val_take_succ B L (m + 2) (by omega)
  rw [show m + 2 + 1 = L.length by omega, List.take_length, val_take_succ B L (m + 1) (by omega), val_take_succ B L m (by omega), Nat.pow_succ, Nat.pow_succ] at e
  rw [e]; grind
theorem val_top2 (B : Nat) (L : List Nat) (m : Nat) (h : L.length = m + 2) : val B L = val B (L.take m) + B ^ m * (L[m]'(by omega) + B * L[m + 1]'(by omega)) := by
  have e := val_take_succ B L (m + 1) (by omega)
  rw [show m + 1 + 1 = L.length by omega, List.take_length, val_take_succ B L m (by omega), Nat.pow_succ] at e
  rw [e]; grind
theorem val_take_lt {L : List Nat} (s : Small H L) (m : Nat) (h : m ≤ L.length) : val H (L.take m) < H ^ m := by
  have := val_lt (B := H) (by decide) (small_take s m)
  rwa [List.length_take, Nat.min_eq_left h] at this
theorem drewN_twice (w : World) (a b : Nat) : (w.drewN a).drewN b = w.drewN (a + b) := by simp [World.drewN, Nat.add_assoc]
def RGuess (v d : Nat) (w : World) (e : Ending) (w' : World) : Prop := ∃ (k n : Nat), e = .returned (.int .u64 (k : Nat)) ∧ w' = w.drewN n ∧ k ≤ H ∧ (v / d = k ∨ v / d + 1 = k)

set_option maxRecDepth 100000 in
set_option maxHeartbeats 1600000 in
theorem guess_any (g off cap g' off' cap' m : Nat) (L B : List Nat) (w : World) (hL : L.length = m + 3) (hB : B.length = m + 2) (hw : Win w g off L) (hw' : Win w g' off' B) (sL : Small H L) (sB : Small H B)
    (ht : 2147483648 ≤ B[m + 1]'(by omega)) (hlt : val H L < val H B * H) (hc' : m + 2 ≤ cap') (hcm' : cap' ≤ 9223372036854775807) :
    Calls Try.prog 85 #[.slice (some ⟨g, off, none⟩) (m + 3) cap, .slice (some ⟨g', off', none⟩) (m + 2) cap'] w (RGuess (val H L) (val H B) w) := by
  have eL := val_top3 H L m hL
  have eB := val_top2 H B m hB
  have lL := val_take_lt sL m (by omega)
  have lB := val_take_lt sB m (by omega)
  have e2 := hw (m + 2) (by omega)
  have e1 := hw (m + 1) (by omega)
  have e0 := hw m (by omega)
  have f1 := hw' (m + 1) (by omega)
  have f0 := hw' m (by omega)
  have s2 := small_get sL (m + 2) (by omega)
  have s1 := small_get sL (m + 1) (by omega)
  have s0 := small_get sL m (by omega)
  have u1 := small_get sB (m + 1) (by omega)
  have u0 := small_get sB m (by omega)
  generalize L[m + 2]'(by omega) = r2 at *
  generalize L[m + 1]'(by omega) = r1 at *
  generalize L[m]'(by omega) = r0 at *
  generalize B[m + 1]'(by omega) = t1 at *
  generalize B[m]'(by omega) = t0 at *
  generalize val H (L.take m) = low at *
  generalize val H (B.take m) = lowb at *
  generalize val H L = vL at *
  generalize val H B = vB at *
  generalize H ^ m = P at *
  subst eL
  subst eB
  have M := fun h q => guess_ok (q := q) (h := h) lL lB rfl rfl s0 s1 u0 ht hlt
  obtain ⟨vq, hvq⟩ : ∃ q, q = (low + P * (r0 + H * r1 + H * H * r2)) / (lowb + P * (t0 + H * t1)) := ⟨_, rfl⟩
  have HM := hid M
  have Hvq := hid hvq
  unfold RGuess
  rw [← hvq]
  clear M hvq hlt lL lB
  unfold H at s2 s1 s0 u1 u0
  clear hw hw'
  go_enter Try.func85, Try.ntmps85
  go_wp2_with fail
  go_quiet (fail)
  rw [or_half r2 r1 (by omega) (by omega)]
  obtain ⟨hd, hhd⟩ : ∃ hd, hd = r2 * 4294967296 + r1 := ⟨_, rfl⟩
  rw [← hhd]
  have Hhd := hid hhd
  have hdl : hd ≤ 18446744073709551615 := by omega
  have htz : ((t1 : Int) == 0) = false := beq_eq_false_iff_ne.2 (by omega)
  clear hhd
  obtain ⟨q, hq⟩ : ∃ q, q = hd / t1 := ⟨_, rfl⟩
  obtain ⟨left, hleft⟩ : ∃ q, q = hd % t1 := ⟨_, rfl⟩
  have ql : q ≤ 18446744073709551615 := by rw [hq]; exact Nat.le_trans (Nat.div_le_self _ _) hdl
  have d1 : (hd : Int) / (t1 : Int) = (q : Int) := by rw [hq]; rfl
  have d2 : (hd : Int) % (t1 : Int) = (left : Int) := by rw [hleft]; rfl
  have ll : left < t1 := by rw [hleft]; exact Nat.mod_lt _ (by omega)
  have Hq := hid hq; have Hleft := hid hleft
  have D1 := hid d1; have D2 := hid d2
  clear hq hleft d1 d2
  go_wp2_with fail
  go_quiet (fail)
  rw [D1.out, D2.out, wrap_nat q (by unfold W; omega)]
  by_cases hge : H ≤ q
  · have hb : ((q : Int) / 4294967296 == 0) = false := beq_eq_false_iff_ne.2 (by unfold H at hge; omega)
    have hb' : ((q : Int) / 4294967296 != 0) = true := by simp [bne, hb]
    have hq1 : 1 ≤ (q : Int) := by unfold H at hge; omega
    go_wp2_with fail
    go_quiet (fail)
    obtain ⟨m1, m2, m3, m4⟩ := HM.out q vq (by rw [Hq.out, Hhd.out]; rfl) Hvq.out
    obtain ⟨m5, m6, m7, m8⟩ := m3 (Or.inl hge)
    have e1 : ((q : Int) - 1) = ((q - 1 : Nat) : Int) := by omega
    have E1 := hid e1
    clear e1 m1 m2 m3 m4
    go_wp2_with fail
    go_ret
    exact ⟨q - 1, _, by rw [← E1.out]; rfl, rfl, by omega, by omega⟩
  · have hb : ((q : Int) / 4294967296 == 0) = true := beq_iff_eq.2 (by unfold H at hge; omega)
    have hb' : ((q : Int) / 4294967296 != 0) = false := by simp [bne, hb]
    have hqs : q < 4294967296 := by unfold H at hge; omega
    have hp : q * t0 ≤ 4294967295 * 4294967295 := Nat.mul_le_mul (by omega) (by omega)
    have q1 : (q : Int) * (t0 : Int) ≤ 18446744065119617025 := by
      have : ((q * t0 : Nat) : Int) ≤ 18446744065119617025 := by omega
      rwa [Int.natCast_mul] at this
    have q2 : 0 ≤ (q : Int) * (t0 : Int) := by rw [← Int.natCast_mul]; omega
    obtain ⟨m1, m2, m3, m4⟩ := HM.out q vq (by rw [Hq.out, Hhd.out]; rfl) Hvq.out
    have hRT : r0 + H * r1 + H * H * r2 < q * (t0 + H * t1) ↔ left * 4294967296 + r0 < q * t0 := by
      have e : hd = t1 * q + left := by rw [Hq.out, Hleft.out]; exact (Nat.div_add_mod hd t1).symm
      have e1 : r0 + H * r1 + H * H * r2 = (hd * H) + r0 := by rw [Hhd.out]; unfold H; grind
      have e2 : hd * H = q * (H * t1) + left * 4294967296 := by rw [e]; unfold H; grind
      rw [e1, e2, Nat.mul_add]; omega
    have hor := or_half left r0 (by omega) (by omega)
    by_cases hc : left * 4294967296 + r0 < q * t0
    · obtain ⟨m5, m6, m7, m8⟩ := m3 (Or.inr (hRT.2 hc))
      have hci : ((left * 4294967296 + r0 : Nat) : Int) < (q : Int) * (t0 : Int) := by rw [← Int.natCast_mul]; omega
      have e1 : ((q : Int) - 1) = ((q - 1 : Nat) : Int) := by omega
      have hq1 : 1 ≤ (q : Int) := by omega
      have E1 := hid e1; have Hor := hid hor; have Hci := hid hci
      obtain ⟨tst, htst⟩ : ∃ b, b = decide (bits BinOp.or IntKind.u64 ((left : Int) * 4294967296) (r0 : Int) < (q : Int) * (t0 : Int)) := ⟨_, rfl⟩
      have Ht : Hid (tst = true) := by unfold Hid; rw [htst, hor]; exact decide_eq_true hci
      clear e1 hor hci m1 m2 m3 m4 hRT hc htst
      go_wp2_with fail
      go_quiet (fail)
      rw [Hor.out]
      have hci := Hci.out
      go_wp2_with fail
      go_ret
      exact ⟨q - 1, _, by rw [← E1.out]; rfl, rfl, by omega, by omega⟩
    · obtain ⟨m5, m6⟩ := m4 (by omega) (by have := mt hRT.1 hc; omega)
      have hci : ¬ ((left * 4294967296 + r0 : Nat) : Int) < (q : Int) * (t0 : Int) := by rw [← Int.natCast_mul]; omega
      have Hor := hid hor; have Hci := hid hci
      clear hor hci m1 m2 m3 m4 hRT hc
      go_wp2_with fail
      go_quiet (fail)
      rw [Hor.out]
      have hci := Hci.out
      go_wp2_with fail
      go_ret
      exact ⟨q, _, rfl, drewN_twice .., by omega, by omega⟩
end Go.Proofs.Ytlijekppbpefaaa
/- whole.lessBy, whole.moreBy: in place, in the midst of a row. -/
namespace Go.Proofs.Ytlijekppbpefaaa
open Go.RowKit Big

theorem less_step {vX vL vB o x c b r P k d b' : Nat} (hP : P = o * x + c) (h : vX + o * vB = vL + (c + b) * H ^ k) (hd : d + P % H + b = r + b' * H) :
    (vX + H ^ k * d) + o * (vB + H ^ k * x) = (vL + H ^ k * r) + (P / H + b') * H ^ (k + 1) := by
  have e : P = H * (P / H) + P % H := (Nat.div_add_mod P H).symm
  rw [Nat.pow_succ]
  generalize P / H = q at *
  generalize P % H = p at *
  have e1 : o * x + c = H * q + p := by rw [← hP, e]
  have e2 : H ^ k * (d + p + b) = H ^ k * (r + b' * H) := by rw [hd]
  have e3 : H ^ k * (o * x + c) = H ^ k * (H * q + p) := by rw [e1]
  generalize H ^ k = K at *
  simp only [Nat.mul_add] at e2 e3
  have g1 : o * (K * x) = K * (o * x) := Nat.mul_left_comm ..
  have g2 : (c + b) * K = K * c + K * b := by rw [Nat.mul_comm, Nat.mul_add]
  have g3 : (q + b') * (K * H) = K * (H * q) + K * (b' * H) := by rw [Nat.add_mul, Nat.mul_left_comm q K H, Nat.mul_left_comm b' K H, Nat.mul_comm q H]
  rw [Nat.mul_add, g1, g3]
  rw [g2] at h
  omega
theorem wrap_up (x : Int) (h0 : 0 ≤ x) (h1 : x < 18446744073709551616) : IntKind.u64.wrap x = x := by
  simp only [IntKind.wrap, IntKind.bits, IntKind.signed]; simp; omega
theorem wrap_down (x : Int) (h0 : -18446744073709551616 ≤ x) (h1 : x < 0) : IntKind.u64.wrap x = x + 18446744073709551616 := by
  simp only [IntKind.wrap, IntKind.bits, IntKind.signed]; simp; omega
/-- the digit that is left, and what is borrowed -/
theorem left_digit (r p b : Nat) (hr : r < 4294967296) (hp : p < 4294967296) (hb : b ≤ 1) : ∃ d b', d < 4294967296 ∧ b' ≤ 1 ∧ d + p + b = r + b' * 4294967296 ∧
    IntKind.u64.wrap (IntKind.u64.wrap ((r : Int) - (p : Int)) - (b : Int)) % 4294967296 = (d : Int) ∧ IntKind.u64.wrap (IntKind.u64.wrap ((r : Int) - (p : Int)) - (b : Int)) / 9223372036854775808 = (b' : Int) := by
  by_cases h : p + b ≤ r
  · refine ⟨r - p - b, 0, by omega, by omega, by omega, ?_⟩
    rw [wrap_up ((r : Int) - (p : Int)) (by omega) (by omega), wrap_up _ (by omega) (by omega)]
    have e : (r : Int) - (p : Int) - (b : Int) = ((r - p - b : Nat) : Int) := by omega
    rw [e]
    have l : r - p - b < 4294967296 := by omega
    generalize r - p - b = t at *
    exact ⟨by omega, by omega⟩
  · refine ⟨r + 4294967296 - p - b, 1, by omega, by omega, by omega, ?_⟩
    have hw : IntKind.u64.wrap (IntKind.u64.wrap ((r : Int) - (p : Int)) - (b : Int)) = (r : Int) - (p : Int) - (b : Int) + 18446744073709551616 := by
      by_cases h2 : p ≤ r
      · rw [wrap_up ((r : Int) - (p : Int)) (by omega) (by omega), wrap_down _ (by omega) (by omega)]
      · rw [wrap_down ((r : Int) - (p : Int)) (by omega) (by omega), wrap_up _ (by omega) (by omega)]; omega
    rw [hw]
    have e : (r : Int) - (p : Int) - (b : Int) = ((r + 4294967296 - p - b : Nat) : Int) - 4294967296 := by omega
    rw [e]
    have l : r + 4294967296 - p - b < 4294967296 := by omega
    generalize r + 4294967296 - p - b = t at *
    exact ⟨by omega, by omega⟩

theorem less_last {vX vL vB o c b r d b' K : Nat} (h : vX + o * vB = vL + (c + b) * K) (hd : d + c + b = r + b' * 4294967296) : (vX + K * d) + o * vB = (vL + K * r) + b' * (K * H) := by
  have e : K * (d + c + b) = K * (r + b' * H) := by rw [hd]; rfl
  simp only [Nat.mul_add] at e
  have g : (c + b) * K = K * c + K * b := by rw [Nat.mul_comm, Nat.mul_add]
  have g2 : b' * (K * H) = K * (b' * H) := Nat.mul_left_comm ..
  omega
theorem less_bool {vX vL p K b : Nat} (h : vX + p = vL + b * K) (hx : vX < K) (hb : b ≤ 1) : b = if vL < p then 1 else 0 := by
  rcases (by omega : b = 0 ∨ b = 1) with rfl | rfl
  · rw [if_neg (by omega)]
  · rw [if_pos (by omega)]
theorem row_set {α : Type} (R X : List α) (i k : Nat) (d : α) (hX : X.length = k) (h : i + k < R.length) : (R.take i ++ X ++ R.drop (i + k)).set (i + k) d = R.take i ++ (X ++ [d]) ++ R.drop (i + (k + 1)) := by
  rw [List.set_append_right _ _ (by simp; omega)]
  have e : i + k - (R.take i ++ X).length = 0 := by simp; omega
  rw [e, List.drop_eq_getElem_cons h, List.set_cons_zero]
  simp [Nat.add_assoc]

def RLess (B0 g N cap i m o : Nat) (R L Bl : List Nat) (w : World) (e : Ending) (w' : World) : Prop :=
  ∃ X, X.length = m + 1 ∧ Small H X ∧ e = .returned (.bool (decide (val H L < o * val H Bl))) ∧
      val H X + o * val H Bl = val H L + (if val H L < o * val H Bl then H ^ (m + 1) else 0) ∧ Own w' B0 90 .u32 (.slice (some ⟨g, 0, none⟩) N cap) (R.take i ++ X ++ R.drop (i + m + 1)) ∧ w.grownBy w' (some g)

set_option maxRecDepth 100000 in
set_option maxHeartbeats 3200000 in
theorem lessBy_any (B0 g N cap i m cw g' off' cb o : Nat) (R L Bl : List Nat) (w : World) (hown : Own w B0 90 .u32 (.slice (some ⟨g, 0, none⟩) N cap) R) (hN : R.length = N) (hi : i + m + 1 ≤ N) (hL : L = (R.drop i).take (m + 1))
    (hBl : Bl.length = m) (hw : Win w g' off' Bl) (hgg : g' ≠ g) (sR : Small H R) (sB : Small H Bl) (ho : o ≤ H) (hNm : N ≤ 9223372036854775806) :
    Calls Try.prog 86 #[.slice (some ⟨g, i, none⟩) (m + 1) cw, .slice (some ⟨g', off', none⟩) m cb, .int .u64 (o : Nat)] w (RLess B0 g N cap i m o R L Bl w) := by
  have HL := hid hL
  have HN := hid hN
  have HBl := hid hBl
  have Hw := hid hw
  clear hL hN hBl hw
  unfold H at ho
  go_enter Try.func86, Try.ntmps86
  go_wp2_with fail
  go_loopw [7, 8, 16] (fun c b j wr => ∃ (k c' b' : Nat) (X : List Nat), k ≤ m ∧ j = .int .i64 (k : Nat) ∧ c = .int .u64 (c' : Nat) ∧ c' < 4294967296 ∧ b = .int .u64 (b' : Nat) ∧ b' ≤ 1 ∧ Hid (X.length = k) ∧ Small H X ∧
      Own wr B0 90 .u32 (.slice (some ⟨g, 0, none⟩) N cap) (R.take i ++ X ++ R.drop (i + k)) ∧ Hid (val H X + o * val H (Bl.take k) = val H (L.take k) + (c' + b') * H ^ k) ∧ w.grownBy wr (some g)) (fun _ _ j _ => m - (intOf j).toNat)
  case atStart => exact ⟨0, 0, 0, [], Nat.zero_le _, rfl, rfl, by omega, rfl, by omega, rfl, small_nil _, by simpa using hown, by unfold Hid; simp [val], World.grownBy.refl _ _⟩
  case round =>
    obtain ⟨k, c', b', X, hk, rfl, rfl, hc', rfl, hb', hX, sX, hown', hv, hgr⟩ := hrel
    by_cases hkm : k < m
    · have hlen : (R.take i ++ X ++ R.drop (i + k)).length = N := by have := HN.out; have := hX.out; simp; omega
      have hkq : i + k < (R.take i ++ X ++ R.drop (i + k)).length := by omega
      obtain ⟨cc0, f0⟩ := hown'.cell (i + k) hkq
      have hiR : i + k < R.length := by rw [HN.out]; omega
      have eq1 : (R.take i ++ X ++ R.drop (i + k))[i + k] = R[i + k] := by
        have h1 := hX.out
        rw [List.getElem_append_right (by simp; omega)]
        simp only [List.getElem_drop]
        congr 1
        simp; omega
      rw [eq1] at cc0
      have r0 := small_get sR (i + k) hiR
      have hkB : k < Bl.length := by rw [HBl.out]; omega
      have e1 := (hgr.block g' (World.block_lt_of_cell? w _ (Hw.out k hkB)) (by simp; omega))
      have e2 : wr.cell? ⟨g', off' + k, none⟩ = some (.int .u32 (Bl[k] : Nat)) := (World.cell?_of_block (w := w) e1).trans (Hw.out k hkB)
      have x0 := small_get sB k hkB
      obtain ⟨r, hr⟩ : ∃ r, r = R[i + k] := ⟨_, rfl⟩
      obtain ⟨x, hx⟩ : ∃ x, x = Bl[k] := ⟨_, rfl⟩
      rw [← hr] at cc0 r0
      rw [← hx] at e2 x0
      unfold H at r0 x0
      have Hr := hid hr; have Hx := hid hx; have Hlen := hid hlen; have Heq := hid eq1
      clear hr hx hlen eq1 e1
      have p0 : o * x + c' ≤ 4294967296 * 4294967295 + 4294967295 := Nat.add_le_add (Nat.mul_le_mul ho (by omega)) (by omega)
      obtain ⟨P, hP⟩ : ∃ P, P = o * x + c' := ⟨_, rfl⟩
      rw [← hP] at p0
      have q1 : (o : Int) * (x : Int) ≤ 18446744069414584320 := by
        have : ((o * x : Nat) : Int) ≤ 18446744069414584320 := by have := Nat.mul_le_mul ho (show x ≤ 4294967295 by omega); omega
        rwa [Int.natCast_mul] at this
      have q2 : 0 ≤ (o : Int) * (x : Int) := by rw [← Int.natCast_mul]; omega
      have q3 : (o : Int) * (x : Int) + (c' : Int) = (P : Int) := by rw [hP]; simp
      have q4 : (o : Int) * (x : Int) + (c' : Int) ≤ 18446744073709551615 := by rw [q3]; omega
      have HP := hid hP; have Q3 := hid q3
      clear hP q3
      go_wp2
      have r1 : ((o : Int) * (x : Int) + (c' : Int)) / 4294967296 = ((P / 4294967296 : Nat) : Int) := by rw [Q3.out]; omega
      have r2 : ((o : Int) * (x : Int) + (c' : Int)) % 4294967296 = ((P % 4294967296 : Nat) : Int) := by rw [Q3.out]; omega
      rw [r1, r2]
      obtain ⟨d, b2, hd, hb2, hdd, w1, w2⟩ := left_digit r (P % 4294967296) b' r0 (Nat.mod_lt _ (by decide)) hb'
      rw [w1, w2]
      have hq : P / 4294967296 < 4294967296 := by omega
      have hset := hown'.set (i + k) d
      rw [row_set R X i k d hX.out hiR] at hset
      have hLk : L[k]'(by rw [HL.out]; simp; omega) = r := by rw [Hr.out]; simp [HL.out]
      have hv' : val H (X ++ [d]) + o * val H (Bl.take (k + 1)) = val H (L.take (k + 1)) + (P / 4294967296 + b2) * H ^ (k + 1) := by
        rw [val_snoc, hX.out, val_take_succ H Bl k hkB, ← Hx.out, val_take_succ H L k (by rw [HL.out]; simp; omega), hLk]
        exact less_step HP.out hv.out hdd
      clear w1 w2 r1 r2 hLk
      go_roundw
      case rel => exact ⟨k + 1, P / 4294967296, b2, X ++ [d], by omega, by go_num, rfl, hq, rfl, hb2, by have := hX.out; unfold Hid; simp; omega, small_snoc sX hd, hset.1, hv', grown_trans hgr hset.2⟩
      case measure => (simp [intOf] <;> omega)
    · obtain rfl : k = m := by omega
      have hlen : (R.take i ++ X ++ R.drop (i + k)).length = N := by have := HN.out; have := hX.out; simp; omega
      have hkq : i + k < (R.take i ++ X ++ R.drop (i + k)).length := by omega
      obtain ⟨cc0, f0⟩ := hown'.cell (i + k) hkq
      have hiR : i + k < R.length := by rw [HN.out]; omega
      have eq1 : (R.take i ++ X ++ R.drop (i + k))[i + k] = R[i + k] := by
        have h1 := hX.out
        rw [List.getElem_append_right (by simp; omega)]
        simp only [List.getElem_drop]
        congr 1
        simp; omega
      rw [eq1] at cc0
      have r0 := small_get sR (i + k) hiR
      obtain ⟨r, hr⟩ : ∃ r, r = R[i + k] := ⟨_, rfl⟩
      rw [← hr] at cc0 r0
      unfold H at r0
      have hLk : L[k]'(by rw [HL.out]; simp; omega) = r := by rw [hr]; simp [HL.out]
      obtain ⟨d, b2, hd, hb2, hdd, w1, w2⟩ := left_digit r c' b' r0 hc' hb'
      have hset := hown'.set (i + k) d
      rw [row_set R X i k d hX.out hiR] at hset
      have hv' : val H (X ++ [d]) + o * val H Bl = val H L + b2 * H ^ (k + 1) := by
        have e1 := val_take_succ H L k (by rw [HL.out]; simp; omega)
        rw [show L.take (k + 1) = L by rw [List.take_of_length_le]; rw [HL.out]; simp; omega, hLk] at e1
        have e2 := hv.out
        rw [show Bl.take k = Bl by rw [List.take_of_length_le]; rw [HBl.out]; exact Nat.le_refl _] at e2
        rw [val_snoc, hX.out, e1]
        rw [Nat.pow_succ]; exact less_last e2 hdd
      have hlt : val H (X ++ [d]) < H ^ (k + 1) := by
        have := val_lt (B := H) (by decide) (small_snoc sX hd)
        rwa [List.length_append, hX.out] at this
      have hb2' : b2 = if val H L < o * val H Bl then 1 else 0 := less_bool hv' hlt hb2
      have HV := hid hv'; have Hset := hid hset; have W1 := hid w1; have W2 := hid w2; have Hb2 := hid hb2'; have Hlen := hid hlen; have Heq := hid eq1; have Hhlt := hid hlt
      clear hr hLk hv' hset w1 w2 hb2' hdd hlen eq1 hlt
      go_wp2
      rw [W1.out, W2.out]
      go_ret
      have hset := Hset.out
      have hv := HV.out
      have hb := Hb2.out
      by_cases hlt : val H L < o * val H Bl
      · rw [if_pos hlt] at hb
        subst hb
        refine ⟨X ++ [d], by simp [hX.out], small_snoc sX hd, ?_, ?_, hset.1, grown_trans hgr hset.2⟩
        · rw [decide_eq_true hlt]; rfl
        · rw [if_pos hlt]; omega
      · rw [if_neg hlt] at hb
        subst hb
        refine ⟨X ++ [d], by simp [hX.out], small_snoc sX hd, ?_, ?_, hset.1, grown_trans hgr hset.2⟩
        · rw [decide_eq_false hlt]; rfl
        · rw [if_neg hlt]; omega

theorem more_step {vX vL vB x c r P K : Nat} (hP : P = r + x + c) (h : vX + c * K = vL + vB) : (vX + K * (P % H)) + P / H * (K * H) = (vL + K * r) + (vB + K * x) := by
  have e : P = H * (P / H) + P % H := (Nat.div_add_mod P H).symm
  generalize P / H = q at *
  generalize P % H = p at *
  have e1 : K * (r + x + c) = K * (H * q + p) := by rw [← hP, e]
  simp only [Nat.mul_add] at e1
  have g1 : q * (K * H) = K * (H * q) := by rw [Nat.mul_left_comm, Nat.mul_comm q H]
  have g2 : c * K = K * c := Nat.mul_comm ..
  omega
def RMore (B0 g N cap i m : Nat) (R L Bl : List Nat) (w : World) (e : Ending) (w' : World) : Prop :=
  ∃ X c, e = .returned (.tuple #[]) ∧ X.length = m + 1 ∧ Small H X ∧ val H X + c * H ^ (m + 1) = val H L + val H Bl ∧ Own w' B0 90 .u32 (.slice (some ⟨g, 0, none⟩) N cap) (R.take i ++ X ++ R.drop (i + m + 1)) ∧ w.grownBy w' (some g)

set_option maxRecDepth 100000 in
set_option maxHeartbeats 3200000 in
theorem moreBy_any (B0 g N cap i m cw g' off' cb : Nat) (R L Bl : List Nat) (w : World) (hown : Own w B0 90 .u32 (.slice (some ⟨g, 0, none⟩) N cap) R) (hN : R.length = N) (hi : i + m + 1 ≤ N) (hL : L = (R.drop i).take (m + 1))
    (hBl : Bl.length = m) (hw : Win w g' off' Bl) (hgg : g' ≠ g) (sR : Small H R) (sB : Small H Bl) (hNm : N ≤ 9223372036854775806) :
    Calls Try.prog 87 #[.slice (some ⟨g, i, none⟩) (m + 1) cw, .slice (some ⟨g', off', none⟩) m cb] w (RMore B0 g N cap i m R L Bl w) := by
  have HL := hid hL
  have HN := hid hN
  have HBl := hid hBl
  have Hw := hid hw
  clear hL hN hBl hw
  go_enter Try.func87, Try.ntmps87
  go_wp2_with fail
  go_loopw [4, 10] (fun c j wr => ∃ (k c' : Nat) (X : List Nat), k ≤ m ∧ j = .int .i64 (k : Nat) ∧ c = .int .u64 (c' : Nat) ∧ c' ≤ 1 ∧ Hid (X.length = k) ∧ Small H X ∧
      Own wr B0 90 .u32 (.slice (some ⟨g, 0, none⟩) N cap) (R.take i ++ X ++ R.drop (i + k)) ∧ Hid (val H X + c' * H ^ k = val H (L.take k) + val H (Bl.take k)) ∧ w.grownBy wr (some g)) (fun _ j _ => m - (intOf j).toNat)
  case atStart => exact ⟨0, 0, [], Nat.zero_le _, rfl, rfl, by omega, rfl, small_nil _, by simpa using hown, by unfold Hid; simp [val], World.grownBy.refl _ _⟩
  case round =>
    obtain ⟨k, c', X, hk, rfl, rfl, hc', hX, sX, hown', hv, hgr⟩ := hrel
    have hlen : (R.take i ++ X ++ R.drop (i + k)).length = N := by have := HN.out; have := hX.out; simp; omega
    have hkq : i + k < (R.take i ++ X ++ R.drop (i + k)).length := by omega
    obtain ⟨cc0, f0⟩ := hown'.cell (i + k) hkq
    have hiR : i + k < R.length := by rw [HN.out]; omega
    have eq1 : (R.take i ++ X ++ R.drop (i + k))[i + k] = R[i + k] := by
      have h1 := hX.out
      rw [List.getElem_append_right (by simp; omega)]
      simp only [List.getElem_drop]
      congr 1
      simp; omega
    rw [eq1] at cc0
    have r0 := small_get sR (i + k) hiR
    obtain ⟨r, hr⟩ : ∃ r, r = R[i + k] := ⟨_, rfl⟩
    rw [← hr] at cc0 r0
    have hLk : Hid (L[k]'(by rw [HL.out]; simp; omega) = r) := by unfold Hid; rw [hr]; simp [HL.out]
    unfold H at r0
    have Hlen := hid hlen; have Heq := hid eq1
    clear hr hlen eq1
    by_cases hkm : k < m
    · have hkB : k < Bl.length := by rw [HBl.out]; omega
      have e1 := (hgr.block g' (World.block_lt_of_cell? w _ (Hw.out k hkB)) (by simp; omega))
      have e2 : wr.cell? ⟨g', off' + k, none⟩ = some (.int .u32 (Bl[k] : Nat)) := (World.cell?_of_block (w := w) e1).trans (Hw.out k hkB)
      have x0 := small_get sB k hkB
      obtain ⟨x, hx⟩ : ∃ x, x = Bl[k] := ⟨_, rfl⟩
      rw [← hx] at e2 x0
      unfold H at x0
      have Hx := hid hx
      clear hx e1
      obtain ⟨P, hP⟩ : ∃ P, P = r + x + c' := ⟨_, rfl⟩
      have q3 : (r : Int) + (x : Int) + (c' : Int) = (P : Int) := by rw [hP]; simp
      have hPl : P ≤ 8589934591 := by omega
      have HP := hid hP; have Q3 := hid q3
      clear hP q3
      go_wp2
      have r1 : ((r : Int) + (x : Int) + (c' : Int)) / 4294967296 = ((P / 4294967296 : Nat) : Int) := by rw [Q3.out]; omega
      have r2 : ((r : Int) + (x : Int) + (c' : Int)) % 4294967296 = ((P % 4294967296 : Nat) : Int) := by rw [Q3.out]; omega
      rw [r1, r2]
      have hset := hown'.set (i + k) (P % 4294967296)
      rw [row_set R X i k _ hX.out hiR] at hset
      have hv' : val H (X ++ [P % 4294967296]) + P / 4294967296 * H ^ (k + 1) = val H (L.take (k + 1)) + val H (Bl.take (k + 1)) := by
        rw [val_snoc, hX.out, val_take_succ H Bl k hkB, ← Hx.out, val_take_succ H L k (by rw [HL.out]; simp; omega), hLk.out, Nat.pow_succ]
        exact more_step HP.out hv.out
      clear r1 r2
      go_roundw
      case rel => exact ⟨k + 1, P / 4294967296, X ++ [P % 4294967296], by omega, by go_num, rfl, by omega, by have := hX.out; unfold Hid; simp; omega, small_snoc sX (Nat.mod_lt _ (by decide)), hset.1, hv', grown_trans hgr hset.2⟩
      case measure => (simp [intOf] <;> omega)
    · obtain rfl : k = m := by omega
      obtain ⟨P, hP⟩ : ∃ P, P = r + 0 + c' := ⟨_, rfl⟩
      have hset := hown'.set (i + k) (P % 4294967296)
      rw [row_set R X i k _ hX.out hiR] at hset
      have hv' : val H (X ++ [P % 4294967296]) + P / 4294967296 * H ^ (k + 1) = val H L + val H Bl := by
        have e1 := val_take_succ H L k (by rw [HL.out]; simp; omega)
        rw [show L.take (k + 1) = L by rw [List.take_of_length_le]; rw [HL.out]; simp; omega, hLk.out] at e1
        have e2 := hv.out
        rw [show Bl.take k = Bl by rw [List.take_of_length_le]; rw [HBl.out]; exact Nat.le_refl _] at e2
        rw [val_snoc, hX.out, e1, Nat.pow_succ]
        have := more_step (x := 0) hP e2
        rw [Nat.mul_zero, Nat.add_zero] at this
        exact this
      have hPi : (P : Int) = (r : Int) + (c' : Int) := by rw [hP]; simp
      have HV := hid hv'; have Hset := hid hset; have HPi := hid hPi
      have hPl : P ≤ 4294967296 := by omega
      clear hv' hset hPi hP
      go_wp2
      go_end0
      have hmod : ((r : Int) + (c' : Int)) % 4294967296 = ((P % 4294967296 : Nat) : Int) := by rw [← HPi.out]; omega
      rw [hmod]
      exact ⟨X ++ [P % 4294967296], P / 4294967296, rfl, by simp [hX.out], small_snoc sX (Nat.mod_lt _ (by decide)), HV.out, Hset.out.1, grown_trans hgr Hset.out.2⟩
end Go.Proofs.Ytlijekppbpefaaa
/- whole.takeOff: a divisor is taken off a row's window as often as it goes. -/
namespace Go.Proofs.Ytlijekppbpefaaa
open Go.RowKit Big

theorem Own.drewN {w : World} {base : Nat} {e : TypeId} {k : IntKind} {v : Value} {l : List Nat} (h : Own w base e k v l) (n : Nat) : Own (w.drewN n) base e k v l := h
theorem off_right {vL vB k vX : Nat} (hk : vL / vB = k) (hv : vX + k * vB = vL) : vX = vL % vB := by
  have := Nat.div_add_mod vL vB
  rw [hk, Nat.mul_comm] at this; omega
theorem off_less {vL vB k : Nat} (hB : 0 < vB) (hk : vL / vB + 1 = k) : vL < k * vB := by
  rw [← hk]
  have := Nat.lt_mul_div_succ vL hB
  rwa [Nat.mul_comm] at this
theorem off_ge {vL vB k : Nat} (hk : vL / vB = k) : ¬ vL < k * vB := by
  have := Nat.div_mul_le_self vL vB
  rw [hk] at this; omega
theorem off_back {vL vB k vX vY c K : Nat} (hB : 0 < vB) (hk : vL / vB + 1 = k) (hX : vX + k * vB = vL + K) (hY : vY + c * K = vX + vB) (hYK : vY < K) (hBK : vB < K) : vY = vL % vB := by
  have h1 := Nat.div_add_mod vL vB
  have h2 := Nat.mod_lt vL hB
  have h3 : k * vB = vB * (vL / vB) + vB := by rw [← hk, Nat.add_mul, Nat.mul_comm]; omega
  have h4 : vY + c * K = vL % vB + K := by omega
  have : c = 1 := by
    rcases (by omega : c = 0 ∨ c = 1 ∨ 2 ≤ c) with e | e | e
    · subst e; omega
    · exact e
    · have : 2 * K ≤ c * K := Nat.mul_le_mul_right _ e
      omega
  subst this; omega

theorem row_mid (R X : List Nat) (i n : Nat) (hX : X.length = n) (hi : i + n ≤ R.length) : ((R.take i ++ X ++ R.drop (i + n)).drop i).take n = X := by
  have e : (R.take i).length = i := by simp; omega
  rw [List.append_assoc, List.drop_append_of_le_length (by omega), List.drop_of_length_le (by omega), List.nil_append, List.take_append_of_le_length (by omega), List.take_of_length_le (by omega)]
theorem row_twice (R X Y : List Nat) (i n : Nat) (hX : X.length = n) (hi : i + n ≤ R.length) : (R.take i ++ X ++ R.drop (i + n)).take i ++ Y ++ (R.take i ++ X ++ R.drop (i + n)).drop (i + n) = R.take i ++ Y ++ R.drop (i + n) := by
  have e : (R.take i).length = i := by simp; omega
  have e1 : (R.take i ++ X ++ R.drop (i + n)).take i = R.take i := by rw [List.append_assoc, List.take_append_of_le_length (by omega), List.take_of_length_le (by omega)]
  have e2 : (R.take i ++ X ++ R.drop (i + n)).drop (i + n) = R.drop (i + n) := by
    rw [List.drop_append, List.drop_of_length_le (by simp; omega)]
    simp [hX, show min i R.length = i by omega]
  rw [e1, e2]
theorem row_again {w : World} {B0 g N cap i n : Nat} {R X Y : List Nat} (h : Own w B0 90 .u32 (.slice (some ⟨g, 0, none⟩) N cap) ((R.take i ++ X ++ R.drop (i + n + 1)).take i ++ Y ++ (R.take i ++ X ++ R.drop (i + n + 1)).drop (i + n + 1)))
    (hX : X.length = n + 1) (_ : Y.length = n + 1) (hi : i + n + 1 ≤ N) (hN : R.length = N) : Own w B0 90 .u32 (.slice (some ⟨g, 0, none⟩) N cap) (R.take i ++ Y ++ R.drop (i + n + 1)) := by
  have := row_twice R X Y i (n + 1) hX (by omega)
  rw [← Nat.add_assoc] at this
  rwa [this] at h
def ROff (B0 g N cap i m : Nat) (R L Bl : List Nat) (w : World) (e : Ending) (w' : World) : Prop :=
  ∃ X, X.length = m + 1 ∧ Small H X ∧ e = .returned (.int .u32 (val H L / val H Bl : Nat)) ∧ val H X = val H L % val H Bl ∧ Own w' B0 90 .u32 (.slice (some ⟨g, 0, none⟩) N cap) (R.take i ++ X ++ R.drop (i + m + 1)) ∧ w.grownBy w' (some g)

theorem drewN_grown (w : World) (n : Nat) (row : Option Nat) : w.grownBy (w.drewN n) row := ⟨rfl, rfl, rfl, Nat.le_refl _, fun _ _ _ => rfl⟩

set_option maxRecDepth 100000 in
set_option maxHeartbeats 1600000 in
theorem takeOff_any (B0 g N cap i m cw g' off' cb : Nat) (R L Bl : List Nat) (w : World) (hown : Own w B0 90 .u32 (.slice (some ⟨g, 0, none⟩) N cap) R) (hN : R.length = N) (hi : i + (m + 2) + 1 ≤ N) (hL : L = (R.drop i).take (m + 2 + 1))
    (hBl : Bl.length = m + 2) (hw : Win w g' off' Bl) (hgg : g' ≠ g) (sR : Small H R) (sB : Small H Bl) (ht : 2147483648 ≤ Bl[m + 1]'(by omega)) (hlt : val H L < val H Bl * H) (hNm : N ≤ 9223372036854775806) (hcb : m + 2 ≤ cb) (hcb' : cb ≤ 9223372036854775807) :
    Calls Try.prog 82 #[.slice (some ⟨g, i, none⟩) (m + 2 + 1) cw, .slice (some ⟨g', off', none⟩) (m + 2) cb] w (ROff B0 g N cap i (m + 2) R L Bl w) := by
  have hLl : L.length = m + 3 := by rw [hL]; simp; omega
  have sL : Small H L := by rw [hL]; exact small_take (small_drop sR _) _
  have hwin : Win w g i L := fun j hj => by
    have h1 := (hown.cell (i + j) (by omega)).1
    rw [h1]
    simp [hL]
  have hB0 : 0 < val H Bl := by
    have := val_top2 H Bl m hBl
    have h2 : 0 < H ^ m * (Bl[m]'(by omega) + H * Bl[m + 1]'(by omega)) := Nat.mul_pos (Nat.pow_pos (by decide)) (by unfold H; omega)
    omega
  have hg := guess_any g i cw g' off' cb m L Bl w hLl hBl hwin hw sL sB ht hlt hcb hcb'
  have hl : ∀ n o, o ≤ H → Calls Try.prog 86 #[.slice (some ⟨g, i, none⟩) (m + 2 + 1) cw, .slice (some ⟨g', off', none⟩) (m + 2) cb, .int .u64 (o : Nat)] (w.drewN n) (RLess B0 g N cap i (m + 2) o R L Bl (w.drewN n)) := fun n o ho =>
    lessBy_any B0 g N cap i (m + 2) cw g' off' cb o R L Bl (w.drewN n) (hown.drewN n) hN hi hL hBl hw hgg sR sB ho hNm
  have hqH : val H L / val H Bl < 4294967296 := by rw [Nat.div_lt_iff_lt_mul hB0, Nat.mul_comm]; exact hlt
  have hlB := val_lt (B := H) (by decide) sB
  rw [hBl] at hlB
  have hm : ∀ (X : List Nat) w', Own w' B0 90 .u32 (.slice (some ⟨g, 0, none⟩) N cap) (R.take i ++ X ++ R.drop (i + (m + 2) + 1)) → X.length = m + 2 + 1 → Small H X → w.grownBy w' (some g) →
      Calls Try.prog 87 #[.slice (some ⟨g, i, none⟩) (m + 2 + 1) cw, .slice (some ⟨g', off', none⟩) (m + 2) cb] w' (RMore B0 g N cap i (m + 2) (R.take i ++ X ++ R.drop (i + (m + 2) + 1)) X Bl w') := fun X w' ho hX sX hgr =>
    moreBy_any B0 g N cap i (m + 2) cw g' off' cb _ X Bl w' ho (by simp; omega) hi (by have := row_mid R X i (m + 2 + 1) hX (by omega); rw [← Nat.add_assoc] at this; exact this.symm) hBl
      (fun j hj => (World.cell?_of_block (w := w) (hgr.block g' (World.block_lt_of_cell? w _ (hw j hj)) (by simp; omega))).trans (hw j hj)) hgg (small_append (small_append (small_take sR _) sX) (small_drop sR _)) sB hNm
  have Hg := hid hg; have Hl := hid hl; have Hm := hid hm; have HL := hid hL; have HN := hid hN; have HBl := hid hBl; have Hw := hid hw; have HLl := hid hLl
  have HlB := hid hlB
  clear hg hl hm hL hN hBl hw hLl hwin hlB hcb hcb' hlt ht
  go_enter Try.func82, Try.ntmps82
  go_wp2_with fail
  refine Hg.out.mono ?_
  rintro e w1 ⟨k, n, rfl, rfl, hk, hor⟩
  go_wp2_with fail
  refine (Hl.out n k hk).mono ?_
  rintro e w2 ⟨X, hX, sX, rfl, hv, hown2, hgr2⟩
  have HX := hid hX
  rcases hor with hor | hor
  · rw [decide_eq_false (off_ge hor)]
    rw [if_neg (off_ge hor), Nat.add_zero] at hv
    have hres := hid (off_right hor hv)
    have hq : k < 4294967296 := by omega
    have Hor := hid hor
    clear hor hv hX
    go_wp2_with fail
    go_ret
    exact ⟨X, HX.out, sX, by rw [Hor.out]; rfl, hres.out, hown2, grown_trans (drewN_grown w n _) hgr2⟩
  · rw [decide_eq_true (off_less hB0 hor)]
    rw [if_pos (off_less hB0 hor)] at hv
    have hgr : w.grownBy w2 (some g) := grown_trans (drewN_grown w n _) hgr2
    have hk1 : 1 ≤ k := by rw [← hor]; exact Nat.succ_pos _
    have hk2 : k ≤ 4294967296 := hk
    have hk3 : ((k : Int) - 1) = ((k - 1 : Nat) : Int) := by omega
    have hk4 : k - 1 = val H L / val H Bl := by rw [← hor]; rfl
    have Hk3 := hid hk3; have Hk4 := hid hk4
    clear hk3 hk4
    have Hor := hid hor; have Hv := hid hv
    clear hor hv hX
    go_wp2_with fail
    refine (Hm.out X w2 hown2 HX.out sX hgr).mono ?_
    rintro e w3 ⟨Y, c, rfl, hY, sY, hvY, hown3, hgr3⟩
    have hYl := val_lt (B := H) (by decide) sY
    rw [hY] at hYl
    have hres := hid (off_back hB0 Hor.out Hv.out hvY hYl (Nat.lt_of_lt_of_le HlB.out (Nat.pow_le_pow_right (by decide) (by omega))))
    have HY := hid hY
    have hown3' := row_again hown3 HX.out HY.out hi HN.out
    clear hY hvY hYl hown3 hown2
    go_wp2_with fail
    go_ret
    rw [Hk3.out, Hk4.out]
    exact ⟨Y, HY.out, sY, rfl, hres.out, hown3', grown_trans hgr hgr3⟩
end Go.Proofs.Ytlijekppbpefaaa
