/- whole.divide of numbers of one word. -/
import Derived.Test.YtlicmnlllappnaaDoorRefOf
namespace Go.Proofs.YtlicmnlllappnaaDoor
open Go.RowKit Big

def RTwo (q r : Nat) (w : World) (e : Ending) (w' : World) : Prop := ∃ v v', e = .returned (.tuple #[v, v']) ∧ At w' .u64 v (dig W q) ∧ At w' .u64 v' (dig W r) ∧ Below w.heap.size w w'

theorem head_dig {n : Nat} (h : n < W) : (dig W n).headD 0 = n := by
  by_cases h0 : n = 0
  · subst h0; rfl
  · rw [dig_one W2 (by omega) h]; rfl

set_option maxRecDepth 100000 in
set_option maxHeartbeats 1600000 in
theorem divide_small (v0 v1 : Value) (n m : Nat) (w : World) (h0 : At w .u64 v0 (dig W n)) (h1 : At w .u64 v1 (dig W m)) (hn : n < W) (hm : m < W) (hm0 : 0 < m) :
    Calls Tryd.prog 50 #[v0, v1] w (RTwo (n / m) (n % m) w) := by
  have g0 : ∀ W', Below w.heap.size w W' → Calls Tryd.prog 74 #[v0] W' fun e w' => e = .returned (.int .u64 (n : Nat)) ∧ W' = w' := fun W' hb => by
    have := word_any v0 _ W' (h0.below hb); rwa [head_dig hn] at this
  have g1 : ∀ W', Below w.heap.size w W' → Calls Tryd.prog 74 #[v1] W' fun e w' => e = .returned (.int .u64 (m : Nat)) ∧ W' = w' := fun W' hb => by
    have := word_any v1 _ W' (h1.below hb); rwa [head_dig hm] at this
  have s0 : (dig W n).length ≤ 1 := sz_word hn
  have s1 : (dig W m).length ≤ 1 := sz_word hm
  have G0 := hid g0; have G1 := hid g1
  clear g0 g1
  obtain ⟨p0, c0, rfl, -⟩ := h0
  obtain ⟨p1, c1, rfl, -⟩ := h1
  have o0 : ∀ W', Calls Tryd.prog 55 #[.int .u64 ((n / m : Nat) : Int)] W' (RAt .u64 (dig W (n / m)) W') := fun W' => ownWord_any (n / m) W' (Nat.lt_of_le_of_lt (Nat.div_le_self n m) hn)
  have o1 : ∀ W', Calls Tryd.prog 55 #[.int .u64 ((n % m : Nat) : Int)] W' (RAt .u64 (dig W (n % m)) W') := fun W' => ownWord_any (n % m) W' (Nat.lt_trans (Nat.mod_lt n hm0) hm)
  have O0 := hid o0; have O1 := hid o1
  clear o0 o1
  have hq : n / m < W := Nat.lt_of_le_of_lt (Nat.div_le_self n m) hn
  have td' : IntKind.u64.wrap ((n : Int) / (m : Int)) = ((n / m : Nat) : Int) := by
    rw [← Int.natCast_ediv]
    generalize n / m = q at *
    unfold W at hq
    simp only [IntKind.wrap, IntKind.bits, IntKind.signed]
    simp; omega
  have tm' : ((n : Int) % (m : Int)) = ((n % m : Nat) : Int) := (Int.natCast_emod n m).symm
  have hb : ((m : Int) == 0) = false := beq_eq_false_iff_ne.2 (by omega)
  have Td' := hid td'; have Tm' := hid tm'
  clear td' tm' hq
  generalize (dig W n).length = k0 at *
  generalize (dig W m).length = k1 at *
  go_enter Tryd.func50, Tryd.ntmps50
  go_wp2_with fail
  refine (G0.out _ (Below.refl _ _)).mono ?_
  rintro e w' ⟨rfl, rfl⟩
  go_wp2_with fail
  refine (G1.out _ (Below.refl _ _)).mono ?_
  rintro e w' ⟨rfl, rfl⟩
  go_wp2_with fail
  rw [Td'.out]
  refine (O0.out _).mono ?_
  rintro e w1 ⟨q, rfl, hq, hb1⟩
  go_wp2_with fail
  refine (G0.out _ hb1).mono ?_
  rintro e w' ⟨rfl, rfl⟩
  go_wp2_with fail
  refine (G1.out _ hb1).mono ?_
  rintro e w' ⟨rfl, rfl⟩
  go_wp2_with fail
  rw [Tm'.out]
  refine (O1.out _).mono ?_
  rintro e w2 ⟨r, rfl, hr, hb2⟩
  go_wp2_with fail
  go_ret2
  exact ⟨_, _, rfl, hq.below hb2, hr, hb1.trans (hb2.mono hb1.size)⟩
end Go.Proofs.YtlicmnlllappnaaDoor
