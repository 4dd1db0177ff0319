/- Texts put together: Big, LnMath, LnGcd, PlMath, AtMath, Mem, Trim, SmallFns, Own, Plus, Minus, Compare, Mem2, WholeFns, WholeAdd, WholeOwn, Apart, Ls, Inv, Facts, Lens, Step, Shelf, HalfTrim, Split, DivShort, Join, TimesPlus, TimesHalves, TimesWalk, RefTrim, Digits, From, RefWhole, RefPlus. -/
import Derived.Lib.ItoaNum
import Derived.Maps.OwnSet
import Derived.Maps.Views
import Derived.Test.YtnfohbpgnbfmeaaGreatDoorProg
import Derived.WalkKit
import Derived.WalkSpells
import Derived.Deep.QuietTactic
import Derived.BigQuiet
import Derived.WalkSmall
import Derived.Laws.AppendOwnNone
import Derived.Shelf.Spec.BitsCarry
import Derived.Deep.RegionHeld3
import Derived.Maps.AppendAt
import Derived.Shelf.Strings.Builder1
import Derived.Shelf.Small.Bits
import Derived.Shelf.Small.Wraps
import Derived.Shelf.Strings.BuilderF
import Derived.Shelf.Strings.BuilderK
import Derived.Shelf.Strconv.Itoa0
import Derived.Shelf.Strconv.Itoa1
import Derived.Shelf.LaysM
import Derived.Shelf.Strconv.Itoa2
import Derived.Shelf.Strconv.Itoa3
import Derived.Shelf.Strconv.AppendUint10
import Derived.Shelf.Strconv.AppendInt10
import Derived.Shelf.Strings.BuilderCap
import Derived.Ground.SlgmProg
import Derived.Shelf.SortM.Plain
import Derived.Shelf.SortM.SortNone
import Derived.Laws.BitsAll
/- Plain mathematics of digit lists: the value of a list of digits, its canonical form, and how sums, differences, products and quotients of digits carry. No program is named here. -/
namespace Go.Proofs.YtnfohbpgnbfmeaaGreatDoor.Big

/-- the value of digits, the lowest first -/
def val (B : Nat) : List Nat → Nat
  | [] => 0
  | x :: xs => x + B * val B xs

/-- all digits are below the base -/
def Small (B : Nat) (l : List Nat) : Prop := ∀ x ∈ l, x < B

/-- the digits of a number, with fuel -/
def dg (B : Nat) : Nat → Nat → List Nat
  | 0, _ => []
  | f + 1, n => if n = 0 then [] else (n % B) :: dg B f (n / B)
/-- the digits of a number, none of them above the highest that isn't 0 -/
def dig (B n : Nat) : List Nat := dg B n n
/-- how many digits -/
def sz (B n : Nat) : Nat := (dig B n).length

theorem val_cons (B x : Nat) (l : List Nat) : val B (x :: l) = x + B * val B l := rfl
theorem val_append (B : Nat) (l m : List Nat) : val B (l ++ m) = val B l + B ^ l.length * val B m := by
  induction l with
  | nil => simp [val]
  | cons x l ih => simp only [List.cons_append, val, ih, List.length_cons, Nat.pow_succ]; grind
theorem val_snoc (B : Nat) (l : List Nat) (x : Nat) : val B (l ++ [x]) = val B l + B ^ l.length * x := by
  rw [val_append]; simp [val]
theorem small_nil (B : Nat) : Small B [] := by intro x hx; cases hx
theorem small_cons {B x : Nat} {l : List Nat} (h : x < B) (hl : Small B l) : Small B (x :: l) := by
  intro y hy; cases hy with
  | head => exact h
  | tail _ hy => exact hl y hy
theorem small_append {B : Nat} {l m : List Nat} (hl : Small B l) (hm : Small B m) : Small B (l ++ m) := by
  intro y hy; rcases List.mem_append.1 hy with h | h
  · exact hl y h
  · exact hm y h
theorem small_snoc {B : Nat} {l : List Nat} {x : Nat} (hl : Small B l) (h : x < B) : Small B (l ++ [x]) :=
  small_append hl (small_cons h (small_nil B))
theorem small_left {B : Nat} {l m : List Nat} (h : Small B (l ++ m)) : Small B l := fun x hx => h x (List.mem_append_left _ hx)
theorem small_take {B : Nat} {l : List Nat} (h : Small B l) (k : Nat) : Small B (l.take k) := fun x hx => h x (List.mem_of_mem_take hx)
theorem small_drop {B : Nat} {l : List Nat} (h : Small B l) (k : Nat) : Small B (l.drop k) := fun x hx => h x (List.mem_of_mem_drop hx)
theorem small_get {B : Nat} {l : List Nat} (h : Small B l) (i : Nat) (hi : i < l.length) : l[i] < B := h _ (List.getElem_mem hi)
theorem small_getD {B : Nat} {l : List Nat} (h : Small B l) (hB : 0 < B) (i : Nat) : l[i]?.getD 0 < B := by
  cases hx : l[i]? with
  | none => simpa using hB
  | some x => simpa using h x (List.mem_of_getElem? hx)

theorem val_lt {B : Nat} (hB : 0 < B) : ∀ {l : List Nat}, Small B l → val B l < B ^ l.length
  | [], _ => by simp [val]
  | x :: l, h => by
    have h1 : x < B := h x (by simp)
    have h2 := val_lt hB (l := l) fun y hy => h y (by simp [hy])
    simp only [val, List.length_cons, Nat.pow_succ]
    have : B * val B l + B ≤ B ^ l.length * B := by
      rw [Nat.mul_comm (B ^ l.length)]; calc B * val B l + B = B * (val B l + 1) := by grind
        _ ≤ B * B ^ l.length := Nat.mul_le_mul_left _ h2
    omega
theorem val_take_drop (B : Nat) (l : List Nat) (k : Nat) (hk : k ≤ l.length) : val B l = val B (l.take k) + B ^ k * val B (l.drop k) := by
  conv => lhs; rw [← List.take_append_drop k l]
  rw [val_append, List.length_take, Nat.min_eq_left hk]
theorem take_succ' {α : Type} (l : List α) (k : Nat) (h : k < l.length) : l.take (k + 1) = l.take k ++ [l[k]] := by
  rw [List.take_succ_eq_append_getElem h]
theorem val_take_succ (B : Nat) (l : List Nat) (k : Nat) (h : k < l.length) : val B (l.take (k + 1)) = val B (l.take k) + B ^ k * l[k] := by
  rw [take_succ' l k h, val_snoc, List.length_take, Nat.min_eq_left (by omega)]
theorem val_take_ge (B : Nat) (l : List Nat) (k : Nat) (h : l.length ≤ k) : val B (l.take k) = val B l := by rw [List.take_of_length_le h]
/-- one digit more, which may lie beyond the end -/
theorem val_take_getD (B : Nat) (l : List Nat) (k : Nat) : val B (l.take (k + 1)) = val B (l.take k) + B ^ k * l[k]?.getD 0 := by
  by_cases h : k < l.length
  · rw [val_take_succ B l k h]; simp [h]
  · rw [val_take_ge _ _ _ (by omega), val_take_ge _ _ _ (by omega)]; simp [List.getElem?_eq_none (Nat.le_of_not_lt h)]
theorem val_drop_succ (B : Nat) (l : List Nat) (k : Nat) (h : k < l.length) : val B (l.drop k) = l[k] + B * val B (l.drop (k + 1)) := by
  rw [List.drop_eq_getElem_cons h, val_cons]

theorem dg_fuel {B : Nat} (hB : 2 ≤ B) : ∀ (f g n : Nat), n ≤ f → n ≤ g → dg B f n = dg B g n
  | 0, 0, n, _, _ => rfl
  | 0, g + 1, n, h, _ => by have : n = 0 := by omega
                            subst this; simp [dg]
  | f + 1, 0, n, _, h => by have : n = 0 := by omega
                            subst this; simp [dg]
  | f + 1, g + 1, n, h1, h2 => by
    simp only [dg]
    by_cases h : n = 0
    · simp [h]
    · have hd : n / B < n := Nat.div_lt_self (by omega) (by omega)
      simp only [h, if_false]
      rw [dg_fuel hB f g (n / B) (by omega) (by omega)]
theorem dig_zero (B : Nat) : dig B 0 = [] := rfl
theorem dig_pos {B : Nat} (hB : 2 ≤ B) {n : Nat} (h : 0 < n) : dig B n = (n % B) :: dig B (n / B) := by
  have hd : n / B < n := Nat.div_lt_self h (by omega)
  obtain ⟨m, rfl⟩ : ∃ m, n = m + 1 := ⟨n - 1, by omega⟩
  show dg B (m + 1) (m + 1) = _
  simp only [dg]
  rw [if_neg (by omega), dg_fuel hB m ((m + 1) / B) _ (by omega) (Nat.le_refl _)]
  rfl
theorem dig_one {B : Nat} (hB : 2 ≤ B) {n : Nat} (h : 0 < n) (hn : n < B) : dig B n = [n] := by
  rw [dig_pos hB h, Nat.mod_eq_of_lt hn, Nat.div_eq_of_lt hn, dig_zero]
theorem strong {P : Nat → Prop} (h : ∀ n, (∀ m, m < n → P m) → P n) (n : Nat) : P n := Nat.strongRecOn n h
theorem val_dig {B : Nat} (hB : 2 ≤ B) (n : Nat) : val B (dig B n) = n := by
  induction n using strong with
  | h n ih =>
    by_cases h : n = 0
    · subst h; rfl
    · have hd : n / B < n := Nat.div_lt_self (by omega) (by omega)
      rw [dig_pos hB (by omega), val_cons, ih _ hd]
      exact Nat.mod_add_div n B
theorem small_dig {B : Nat} (hB : 2 ≤ B) (n : Nat) : Small B (dig B n) := by
  induction n using strong with
  | h n ih =>
    by_cases h : n = 0
    · subst h; exact small_nil B
    · have hd : n / B < n := Nat.div_lt_self (by omega) (by omega)
      rw [dig_pos hB (by omega)]
      exact small_cons (Nat.mod_lt _ (by omega)) (ih _ hd)
theorem last_dig {B : Nat} (hB : 2 ≤ B) (n : Nat) : (h : dig B n ≠ []) → (dig B n).getLast h ≠ 0 := by
  induction n using strong with
  | h n ih =>
    intro h
    by_cases h0 : n = 0
    · subst h0; exact absurd rfl h
    · have hd : n / B < n := Nat.div_lt_self (by omega) (by omega)
      by_cases h1 : n / B = 0
      · have e : dig B n = [n % B] := by rw [dig_pos hB (by omega), h1]; rfl
        have : n % B ≠ 0 := by
          intro hm
          have := Nat.mod_add_div n B
          rw [hm, h1] at this; omega
        simp only [e, List.getLast_singleton]; exact this
      · have hne : dig B (n / B) ≠ [] := by rw [dig_pos hB (Nat.pos_of_ne_zero h1)]; simp
        have e : dig B n = (n % B) :: dig B (n / B) := dig_pos hB (by omega)
        have := ih _ hd hne
        simp only [e]
        rw [List.getLast_cons hne]; exact this
/-- a list without a nought at its end is its number's digits -/
theorem canon_last {B : Nat} (hB : 2 ≤ B) : ∀ {l : List Nat}, Small B l → (∀ h : l ≠ [], l.getLast h ≠ 0) → l = dig B (val B l)
  | [], _, _ => rfl
  | x :: l, hs, hl => by
    have hx : x < B := hs x (by simp)
    have hs' : Small B l := fun y hy => hs y (by simp [hy])
    have hl' : ∀ h : l ≠ [], l.getLast h ≠ 0 := by
      intro h; have := hl (by simp); rwa [List.getLast_cons h] at this
    have ih := canon_last hB hs' hl'
    have hpos : 0 < val B (x :: l) := by
      rw [val_cons]
      by_cases hln : l = []
      · subst hln; have := hl (by simp); simp at this; omega
      · have : val B l ≠ 0 := by
          intro h0; rw [h0] at ih; exact hln (by rw [ih]; rfl)
        have : 0 < B * val B l := Nat.mul_pos (by omega) (by omega)
        omega
    rw [dig_pos hB hpos, val_cons, Nat.add_mul_mod_self_left, Nat.mod_eq_of_lt hx, Nat.add_mul_div_left _ _ (by omega : 0 < B), Nat.div_eq_of_lt hx, Nat.zero_add, ← ih]
theorem canon {B : Nat} (hB : 2 ≤ B) {l : List Nat} (hs : Small B l) (h : l = [] ∨ B ^ (l.length - 1) ≤ val B l) : l = dig B (val B l) := by
  refine canon_last hB hs fun hne h0 => ?_
  rcases h with h | h
  · exact hne h
  · have e : l = l.dropLast ++ [0] := by rw [← h0]; exact (List.dropLast_concat_getLast hne).symm
    have hlt := val_lt (by omega : 0 < B) (l := l.dropLast) (fun y hy => hs y (List.dropLast_subset l hy))
    have e2 : val B l = val B l.dropLast := by rw [e, val_snoc]; simp
    rw [List.length_dropLast] at hlt
    omega
theorem canon_val {B : Nat} (hB : 2 ≤ B) {l : List Nat} {n : Nat} (hs : Small B l) (hv : val B l = n) (h : l = [] ∨ B ^ (l.length - 1) ≤ n) : l = dig B n := by
  subst hv; exact canon hB hs h
/-- equal values, equal digits -/
theorem dig_inj {B : Nat} (hB : 2 ≤ B) {n m : Nat} (h : dig B n = dig B m) : n = m := by
  rw [← val_dig hB n, ← val_dig hB m, h]
theorem dig_eq_nil {B : Nat} (hB : 2 ≤ B) {n : Nat} : dig B n = [] ↔ n = 0 :=
  ⟨fun h => by by_cases h0 : n = 0; exact h0; rw [dig_pos hB (by omega)] at h; simp at h, fun h => by subst h; rfl⟩

theorem sz_zero (B : Nat) : sz B 0 = 0 := rfl
theorem sz_pos {B : Nat} (hB : 2 ≤ B) {n : Nat} (h : 0 < n) : sz B n = sz B (n / B) + 1 := by unfold sz; rw [dig_pos hB h]; simp
theorem sz_eq_zero {B : Nat} (hB : 2 ≤ B) {n : Nat} : sz B n = 0 ↔ n = 0 := by
  unfold sz; rw [List.length_eq_zero_iff]; exact dig_eq_nil hB
theorem lt_pow_sz {B : Nat} (hB : 2 ≤ B) (n : Nat) : n < B ^ sz B n := by
  have := val_lt (by omega : 0 < B) (small_dig hB n); rwa [val_dig hB] at this
theorem pow_sz_le {B : Nat} (hB : 2 ≤ B) {n : Nat} (h : 0 < n) : B ^ (sz B n - 1) ≤ n := by
  induction n using strong with
  | h n ih =>
    by_cases h1 : n / B = 0
    · rw [sz_pos hB h, h1]; simp [sz_zero]; omega
    · have hd : n / B < n := Nat.div_lt_self (by omega) (by omega)
      have := ih _ hd (Nat.pos_of_ne_zero h1)
      have hsz : sz B (n / B) ≠ 0 := fun e => h1 ((sz_eq_zero hB).1 e)
      rw [sz_pos hB h, Nat.add_sub_cancel, show sz B (n / B) = sz B (n / B) - 1 + 1 by omega, Nat.pow_succ]
      calc B ^ (sz B (n / B) - 1) * B ≤ n / B * B := Nat.mul_le_mul_right _ this
        _ ≤ n := Nat.div_mul_le_self n B
theorem sz_le_of_lt {B : Nat} (hB : 2 ≤ B) {n k : Nat} (h : n < B ^ k) : sz B n ≤ k := by
  by_cases h0 : n = 0
  · subst h0; rw [sz_zero]; omega
  · have h1 := pow_sz_le hB (n := n) (by omega)
    have h2 : B ^ (sz B n - 1) < B ^ k := Nat.lt_of_le_of_lt h1 h
    have := (Nat.pow_lt_pow_iff_right (a := B) (by omega)).1 h2
    omega
theorem sz_mono {B : Nat} (hB : 2 ≤ B) {n m : Nat} (h : n ≤ m) : sz B n ≤ sz B m :=
  sz_le_of_lt hB (Nat.lt_of_le_of_lt h (lt_pow_sz hB m))
theorem sz_val {B : Nat} (hB : 2 ≤ B) {l : List Nat} (hs : Small B l) : sz B (val B l) ≤ l.length :=
  sz_le_of_lt hB (val_lt (by omega) hs)
theorem sz_mul {B : Nat} (hB : 2 ≤ B) (n m : Nat) : sz B (n * m) ≤ sz B n + sz B m := by
  by_cases h0 : m = 0
  · subst h0; rw [Nat.mul_zero, sz_zero]; omega
  refine sz_le_of_lt hB ?_
  rw [Nat.pow_add]
  exact Nat.mul_lt_mul_of_lt_of_le (lt_pow_sz hB n) (Nat.le_of_lt (lt_pow_sz hB m)) (Nat.pos_of_ne_zero (by have := lt_pow_sz hB m; omega))
theorem sz_add {B : Nat} (hB : 2 ≤ B) {n m k : Nat} (hn : sz B n ≤ k) (hm : sz B m ≤ k) : sz B (n + m) ≤ k + 1 := by
  refine sz_le_of_lt hB ?_
  have h1 := Nat.lt_of_lt_of_le (lt_pow_sz hB n) (Nat.pow_le_pow_right (by omega : 0 < B) hn)
  have h2 := Nat.lt_of_lt_of_le (lt_pow_sz hB m) (Nat.pow_le_pow_right (by omega : 0 < B) hm)
  rw [Nat.pow_succ]
  have : B ^ k * 2 ≤ B ^ k * B := Nat.mul_le_mul_left _ hB
  omega

/-- order by size: more digits, a greater number -/
theorem lt_of_sz_lt {B : Nat} (hB : 2 ≤ B) {n m : Nat} (h : sz B n < sz B m) : n < m := by
  rcases Nat.lt_or_ge n m with h1 | h1
  · exact h1
  · exact absurd (sz_mono hB h1) (by omega)
/-- what is greater in the highest digit at which two lists part is greater -/
theorem val_lt_of_part {B : Nat} {l m : List Nat} {i : Nat} (hl : Small B l) (hi : i < l.length) (him : i < m.length)
    (hd : l.drop (i + 1) = m.drop (i + 1)) (h : l[i] < m[i]) : val B l < val B m := by
  have hB : 0 < B := Nat.lt_of_le_of_lt (Nat.zero_le _) (small_get hl i hi)
  rw [val_take_drop B l i (by omega), val_take_drop B m i (by omega), val_drop_succ B l i hi, val_drop_succ B m i him, hd]
  have hlt := val_lt hB (small_take hl i)
  rw [List.length_take, Nat.min_eq_left (by omega)] at hlt
  have : B ^ i * (l[i] + 1) ≤ B ^ i * m[i] := Nat.mul_le_mul_left _ h
  grind

/-- the strokes of a sum -/
theorem add_step {B x y c s c' P v va vb : Nat} (h : x + y + c = s + B * c') (hv : v + c * P = va + vb) : (v + P * s) + c' * (P * B) = (va + P * x) + (vb + P * y) := by grind
/-- the strokes of a difference -/
theorem sub_step {B x y c s c' P v va vb : Nat} (h : x + B * c' = s + y + c) (hv : v + vb = va + c * P) : (v + P * s) + (vb + P * y) = (va + P * x) + c' * (P * B) := by grind

/-- without the noughts at the end -/
def strip : List Nat → List Nat
  | [] => []
  | x :: l => match strip l with
    | [] => if x = 0 then [] else [x]
    | y :: m => x :: y :: m
theorem strip_dig {B : Nat} (hB : 2 ≤ B) : ∀ {l : List Nat}, Small B l → strip l = dig B (val B l)
  | [], _ => rfl
  | x :: l, hs => by
    have hx : x < B := hs x (by simp)
    have ih := strip_dig hB (l := l) fun y hy => hs y (by simp [hy])
    simp only [strip]
    by_cases h0 : val B l = 0
    · rw [ih, h0, dig_zero]
      simp only [val_cons, h0, Nat.mul_zero, Nat.add_zero]
      by_cases hx0 : x = 0
      · subst hx0; rfl
      · simp only [if_neg hx0]; rw [dig_one hB (by omega) hx]
    · have hne : dig B (val B l) ≠ [] := fun e => h0 ((dig_eq_nil hB).1 e)
      have hpos : 0 < val B (x :: l) := by
        rw [val_cons]; have : 0 < B * val B l := Nat.mul_pos (by omega) (by omega)
        omega
      rw [dig_pos hB hpos, val_cons, Nat.add_mul_mod_self_left, Nat.mod_eq_of_lt hx, Nat.add_mul_div_left _ _ (by omega : 0 < B), Nat.div_eq_of_lt hx, Nat.zero_add, ih]
      cases hh : dig B (val B l) with
      | nil => exact absurd hh hne
      | cons y m => rfl
theorem strip_snoc_zero (l : List Nat) : strip (l ++ [0]) = strip l := by
  induction l with
  | nil => rfl
  | cons x l ih => simp only [List.cons_append, strip, ih]
theorem strip_snoc {l : List Nat} {x : Nat} (h : x ≠ 0) : strip (l ++ [x]) = l ++ [x] := by
  induction l with
  | nil => simp [strip, h]
  | cons y l ih =>
    simp only [List.cons_append, strip, ih]
    cases l <;> rfl
/-- what trim takes off, one at a time -/
theorem strip_take {l : List Nat} {k : Nat} (hk : k < l.length) (h : l[k] = 0) : strip (l.take (k + 1)) = strip (l.take k) := by
  rw [take_succ' l k hk, h, strip_snoc_zero]
theorem strip_take_ne {l : List Nat} {k : Nat} (hk : k < l.length) (h : l[k] ≠ 0) : strip (l.take (k + 1)) = l.take (k + 1) := by
  rw [take_succ' l k hk, strip_snoc h]
theorem strip_length (l : List Nat) : (strip l).length ≤ l.length := by
  induction l with
  | nil => simp [strip]
  | cons x l ih =>
    simp only [strip]
    cases h : strip l with
    | nil => by_cases hx : x = 0 <;> simp [hx]
    | cons y m => rw [h] at ih; simp at ih ⊢; omega

/-- the two bases of the texts: words of 64 bits, halves of 32, digits of 16 -/
def W : Nat := 18446744073709551616
def H : Nat := 4294967296
def D : Nat := 65536
theorem W2 : 2 ≤ W := by decide
theorem H2 : 2 ≤ H := by decide
theorem D2 : 2 ≤ D := by decide

end Go.Proofs.YtnfohbpgnbfmeaaGreatDoor.Big
/- Sums of parts (a number, a term), as layer 6 makes them: put one by one at their places, or by term and in order; what they are worth. Nothing of the program. -/
namespace Go.Proofs.YtnfohbpgnbfmeaaGreatDoor

/-- how often a term stands in parts -/
def lnCf : List (Int × Int) → Int → Int
  | [], _ => 0
  | p :: ps, t => (if p.2 = t then p.1 else 0) + lnCf ps t
/-- what parts are worth -/
def lnVal (v : Int → Int) : List (Int × Int) → Int
  | [] => 0
  | p :: ps => p.1 * v p.2 + lnVal v ps
/-- a part, put at its place -/
def lnPut : List (Int × Int) → Int × Int → List (Int × Int)
  | [], p => [p]
  | x :: l, p => if p.2 < x.2 then p :: x :: l else if p.2 = x.2 then (x.1 + p.1, x.2) :: l else x :: lnPut l p
def lnUp (l : List (Int × Int)) : Prop := l.Pairwise (fun a b => a.2 < b.2)
def lnClean (l : List (Int × Int)) : List (Int × Int) := l.filter (fun p => p.1 != 0)
/-- what the document asks of a sum's parts -/
def lnIs (l : List (Int × Int)) : Prop := lnUp l ∧ ∀ p ∈ l, p.1 ≠ 0
/-- the document's sum of parts -/
def lnSum (ps : List (Int × Int)) : List (Int × Int) := lnClean (ps.foldl lnPut [])

theorem lnCf_append (l m : List (Int × Int)) (t : Int) : lnCf (l ++ m) t = lnCf l t + lnCf m t := by
  induction l with
  | nil => simp [lnCf]
  | cons x l ih => simp only [List.cons_append, lnCf, ih]; omega
theorem lnVal_append (v : Int → Int) (l m : List (Int × Int)) : lnVal v (l ++ m) = lnVal v l + lnVal v m := by
  induction l with
  | nil => simp [lnVal]
  | cons x l ih => simp only [List.cons_append, lnVal, ih]; omega
theorem lnPut_cf (t : Int) (p : Int × Int) : ∀ l, lnCf (lnPut l p) t = lnCf l t + (if p.2 = t then p.1 else 0)
  | [] => by simp [lnPut, lnCf]
  | x :: l => by
    unfold lnPut
    by_cases h : p.2 < x.2
    · rw [if_pos h]; simp only [lnCf]; omega
    · rw [if_neg h]
      by_cases e : p.2 = x.2
      · rw [if_pos e]
        simp only [lnCf, e]
        by_cases h2 : x.2 = t
        · simp only [if_pos h2]; omega
        · simp only [if_neg h2]; omega
      · rw [if_neg e]
        simp only [lnCf, lnPut_cf t p l]
        omega
theorem lnPut_mem (t : Int) (p : Int × Int) : ∀ l, (∃ q ∈ lnPut l p, q.2 = t) ↔ p.2 = t ∨ ∃ q ∈ l, q.2 = t
  | [] => by simp [lnPut]
  | x :: l => by
    unfold lnPut
    by_cases h : p.2 < x.2
    · rw [if_pos h]; simp
    · rw [if_neg h]
      by_cases e : p.2 = x.2
      · rw [if_pos e]
        simp only [List.mem_cons, exists_eq_or_imp, e]
        constructor
        · rintro (h | h)
          · exact .inl h
          · exact .inr (.inr h)
        · rintro (h | h | h)
          · exact .inl h
          · exact .inl h
          · exact .inr h
      · rw [if_neg e]
        simp only [List.mem_cons, exists_eq_or_imp, lnPut_mem t p l]
        constructor
        · rintro (h | h | h)
          · exact .inr (.inl h)
          · exact .inl h
          · exact .inr (.inr h)
        · rintro (h | h | h)
          · exact .inr (.inl h)
          · exact .inl h
          · exact .inr (.inr h)
theorem lnPut_up (p : Int × Int) : ∀ l, lnUp l → lnUp (lnPut l p)
  | [], _ => by simp [lnPut, lnUp]
  | x :: l, hu => by
    obtain ⟨h1, h2⟩ := List.pairwise_cons.1 hu
    unfold lnPut
    by_cases h : p.2 < x.2
    · rw [if_pos h]
      refine List.pairwise_cons.2 ⟨fun q hq => ?_, hu⟩
      rcases List.mem_cons.1 hq with rfl | hq
      · exact h
      · exact Int.lt_trans h (h1 q hq)
    · rw [if_neg h]
      by_cases e : p.2 = x.2
      · rw [if_pos e]
        exact List.pairwise_cons.2 ⟨fun q hq => h1 q hq, h2⟩
      · rw [if_neg e]
        refine List.pairwise_cons.2 ⟨fun q hq => ?_, lnPut_up p l h2⟩
        rcases (lnPut_mem q.2 p l).1 ⟨q, hq, rfl⟩ with h3 | ⟨r, hr, h3⟩
        · omega
        · have := h1 r hr; omega
theorem lnAll_cf (t : Int) : ∀ (ps l : List (Int × Int)), lnCf (ps.foldl lnPut l) t = lnCf l t + lnCf ps t
  | [], l => by simp [lnCf]
  | p :: ps, l => by
    rw [List.foldl_cons, lnAll_cf t ps, lnPut_cf]
    simp only [lnCf]
    omega
theorem lnAll_up : ∀ (ps l : List (Int × Int)), lnUp l → lnUp (ps.foldl lnPut l)
  | [], _, h => h
  | p :: ps, l, h => lnAll_up ps _ (lnPut_up p l h)
theorem lnClean_cf (t : Int) : ∀ l, lnCf (lnClean l) t = lnCf l t
  | [] => rfl
  | x :: l => by
    have ih := lnClean_cf t l
    unfold lnClean at ih ⊢
    by_cases h : x.1 = 0
    · rw [List.filter_cons_of_neg (by simp [h]), ih]
      simp [lnCf, h]
    · rw [List.filter_cons_of_pos (by simp [h])]
      simp only [lnCf, ih]
theorem lnSum_is (ps : List (Int × Int)) : lnIs (lnSum ps) :=
  ⟨List.Pairwise.filter _ (lnAll_up ps [] List.Pairwise.nil), fun p hp => by
    have := (List.mem_filter.1 hp).2
    simpa using this⟩
theorem lnSum_cf (ps : List (Int × Int)) (t : Int) : lnCf (lnSum ps) t = lnCf ps t := by
  unfold lnSum
  rw [lnClean_cf, lnAll_cf]
  simp [lnCf]
/-! ### one sum, one list -/
theorem lnCf_none : ∀ {l : List (Int × Int)} {t : Int}, (∀ p ∈ l, p.2 ≠ t) → lnCf l t = 0
  | [], _, _ => rfl
  | x :: l, t, h => by
    simp only [lnCf]
    rw [if_neg (h x (by simp)), lnCf_none (fun p hp => h p (by simp [hp]))]
    rfl
theorem lnCf_head {x : Int × Int} {l : List (Int × Int)} (h : lnUp (x :: l)) : lnCf (x :: l) x.2 = x.1 := by
  obtain ⟨h1, -⟩ := List.pairwise_cons.1 h
  simp only [lnCf, if_pos]
  rw [lnCf_none (fun p hp => by have := h1 p hp; omega)]
  omega
theorem lnCf_low {x : Int × Int} {l : List (Int × Int)} (h : lnUp (x :: l)) {t : Int} (ht : t < x.2) : lnCf (x :: l) t = 0 :=
  lnCf_none (fun p hp => by
    rcases List.mem_cons.1 hp with rfl | hp
    · omega
    · have := (List.pairwise_cons.1 h).1 p hp; omega)
theorem lnIs.tail {x : Int × Int} {l : List (Int × Int)} (h : lnIs (x :: l)) : lnIs l := ⟨(List.pairwise_cons.1 h.1).2, fun p hp => h.2 p (by simp [hp])⟩
theorem ln_same : ∀ {l m : List (Int × Int)}, lnIs l → lnIs m → (∀ t, lnCf l t = lnCf m t) → l = m
  | [], [], _, _, _ => rfl
  | [], y :: m, _, hm, h => by
    have := h y.2
    rw [lnCf_head hm.1] at this
    exact absurd this.symm (hm.2 y (by simp))
  | x :: l, [], hl, _, h => by
    have := h x.2
    rw [lnCf_head hl.1] at this
    exact absurd this (hl.2 x (by simp))
  | x :: l, y :: m, hl, hm, h => by
    have hx := hl.2 x (by simp)
    have hy := hm.2 y (by simp)
    have e2 : x.2 = y.2 := by
      rcases Int.lt_trichotomy x.2 y.2 with h1 | h1 | h1
      · have := h x.2
        rw [lnCf_head hl.1, lnCf_low hm.1 h1] at this
        exact absurd this hx
      · exact h1
      · have := h y.2
        rw [lnCf_head hm.1, lnCf_low hl.1 h1] at this
        exact absurd this.symm hy
    have e1 : x.1 = y.1 := by
      have := h x.2
      rw [lnCf_head hl.1, e2, lnCf_head hm.1] at this
      exact this
    obtain rfl : x = y := Prod.ext e1 e2
    rw [ln_same hl.tail hm.tail (fun t => by
      have := h t
      simp only [lnCf] at this
      omega)]
/-! ### the program's sum: the terms that stand in it, each once and in order -/
def lnOf (ks : List Int) (f : Int → Int) : List (Int × Int) := (ks.filter (fun t => f t != 0)).map (fun t => (f t, t))
theorem lnOf_cf (f : Int → Int) (t : Int) : ∀ (ks : List Int), ks.Pairwise (· < ·) → lnCf (lnOf ks f) t = if t ∈ ks then f t else 0
  | [], _ => by simp [lnOf, lnCf]
  | k :: ks, h => by
    obtain ⟨h1, h2⟩ := List.pairwise_cons.1 h
    have ih := lnOf_cf f t ks h2
    have hk : k ∉ ks := fun hk => by have := h1 k hk; omega
    unfold lnOf at ih ⊢
    by_cases hf : f k = 0
    · rw [List.filter_cons_of_neg (by simp [hf]), ih]
      by_cases e : t = k
      · subst e; simp [hk, hf]
      · simp [e]
    · rw [List.filter_cons_of_pos (by simp [hf]), List.map_cons]
      simp only [lnCf, ih]
      by_cases e : t = k
      · subst e; simp [hk]
      · have e' : ¬ k = t := fun h => e h.symm
        simp [e, e']
theorem lnOf_is (f : Int → Int) (ks : List Int) (h : ks.Pairwise (· < ·)) : lnIs (lnOf ks f) := by
  constructor
  · exact List.pairwise_map.2 (List.Pairwise.filter _ h)
  · intro p hp
    obtain ⟨t, ht, rfl⟩ := List.mem_map.1 hp
    simpa using (List.mem_filter.1 ht).2
/-- both are one -/
theorem lnOf_sum (ks : List Int) (h : ks.Pairwise (· < ·)) (ps : List (Int × Int)) (hk : ∀ p ∈ ps, p.2 ∈ ks) : lnOf ks (lnCf ps) = lnSum ps :=
  ln_same (lnOf_is _ ks h) (lnSum_is ps) (fun t => by
    rw [lnOf_cf _ t ks h, lnSum_cf]
    by_cases e : t ∈ ks
    · rw [if_pos e]
    · rw [if_neg e, lnCf_none (fun p hp e' => e (by rw [← e']; exact hk p hp))])
/-! ### so many times -/
def lnTimes (k : Int) (ps : List (Int × Int)) : List (Int × Int) := ps.map (fun p => (p.1 * k, p.2))
theorem lnTimes_val (v : Int → Int) (k : Int) : ∀ ps, lnVal v (lnTimes k ps) = lnVal v ps * k
  | [] => by simp [lnTimes, lnVal]
  | p :: ps => by
    have ih := lnTimes_val v k ps
    unfold lnTimes at ih ⊢
    rw [List.map_cons]
    simp only [lnVal, ih, Int.add_mul]
    rw [Int.mul_right_comm]
/-- divided by what goes into all of them, it asks the same of whole values -/
theorem ln_tight (v : Int → Int) (g : Int) (hg : 0 < g) (qs : List (Int × Int)) (c : Int) : lnVal v (lnTimes g qs) + c ≤ 0 ↔ lnVal v qs ≤ (-c) / g := by
  rw [lnTimes_val, Int.le_ediv_iff_mul_le hg]
  omega
theorem lnSum_self {ps : List (Int × Int)} (h : lnIs ps) : lnSum ps = ps := ln_same (lnSum_is _) h (fun t => by rw [lnSum_cf])
def lnOver (g : Int) (ps : List (Int × Int)) : List (Int × Int) := ps.map (fun p => (p.1 / g, p.2))
theorem lnOver_is {g : Int} {ps : List (Int × Int)} (hd : ∀ p ∈ ps, g ∣ p.1) (h : lnIs ps) : lnIs (lnOver g ps) := by
  refine ⟨List.pairwise_map.2 h.1, fun p hp => ?_⟩
  obtain ⟨q, hq, rfl⟩ := List.mem_map.1 hp
  intro e
  have e : q.1 / g = 0 := e
  have := Int.ediv_mul_cancel (hd q hq)
  rw [e, Int.zero_mul] at this
  exact h.2 q hq this.symm
theorem lnOver_times {g : Int} : ∀ {ps : List (Int × Int)}, (∀ p ∈ ps, g ∣ p.1) → lnTimes g (lnOver g ps) = ps
  | [], _ => rfl
  | p :: ps, hd => by
    have ih := lnOver_times (ps := ps) (fun q hq => hd q (by simp [hq]))
    have e := Int.ediv_mul_cancel (hd p (by simp))
    unfold lnTimes lnOver at ih ⊢
    rw [List.map_cons, List.map_cons, ih]
    show (p.1 / g * g, p.2) :: ps = p :: ps
    rw [e]
/-- the tightened sum asks the same -/
theorem lnOver_tight (v : Int → Int) {g : Int} (hg : 0 < g) {ps : List (Int × Int)} (hd : ∀ p ∈ ps, g ∣ p.1) (c : Int) : lnVal v ps + c ≤ 0 ↔ lnVal v (lnOver g ps) ≤ (-c) / g := by
  have := ln_tight v g hg (lnOver g ps) c
  rw [lnOver_times hd] at this
  exact this
end Go.Proofs.YtnfohbpgnbfmeaaGreatDoor
/- The greatest number that goes into all coefficients. Nothing of the program. -/
namespace Go.Proofs.YtnfohbpgnbfmeaaGreatDoor
open Big

instance (l : List (Int × Int)) : Decidable (lnIs l) := by unfold lnIs lnUp; infer_instance
def lnGcd (l : List (Int × Int)) : Nat := l.foldl (fun g p => Nat.gcd g p.1.natAbs) 0
theorem lnGcd_snoc (l : List (Int × Int)) (p : Int × Int) : lnGcd (l ++ [p]) = Nat.gcd (lnGcd l) p.1.natAbs := by simp [lnGcd]
theorem lnGcd_all : ∀ (l : List (Int × Int)) (g : Nat), (l.foldl (fun g p => Nat.gcd g p.1.natAbs) g) ∣ g ∧ ∀ p ∈ l, (l.foldl (fun g p => Nat.gcd g p.1.natAbs) g) ∣ p.1.natAbs
  | [], g => ⟨Nat.dvd_refl _, nofun⟩
  | p :: l, g => by
    obtain ⟨h1, h2⟩ := lnGcd_all l (Nat.gcd g p.1.natAbs)
    refine ⟨Nat.dvd_trans h1 (Nat.gcd_dvd_left _ _), fun q hq => ?_⟩
    rcases List.mem_cons.1 hq with rfl | hq
    · exact Nat.dvd_trans h1 (Nat.gcd_dvd_right _ _)
    · exact h2 q hq
theorem lnGcd_dvd {l : List (Int × Int)} {p : Int × Int} (hp : p ∈ l) : (lnGcd l : Int) ∣ p.1 := Int.ofNat_dvd_left.2 ((lnGcd_all l 0).2 p hp)
theorem lnGcd_pos {l : List (Int × Int)} (hl : l ≠ []) (h : ∀ p ∈ l, p.1 ≠ 0) : 0 < lnGcd l := by
  rcases Nat.eq_zero_or_pos (lnGcd l) with h0 | h0
  · exfalso
    cases l with
    | nil => exact hl rfl
    | cons p l =>
      have h1 := lnGcd_dvd (l := p :: l) (p := p) (by simp)
      rw [h0] at h1
      exact h p (by simp) (Int.zero_dvd.1 (by simpa using h1))
  · exact h0
theorem lnGcd_sz {N : Nat} : ∀ (l : List (Int × Int)), (∀ p ∈ l, sz W p.1.natAbs ≤ N) → ∀ k, sz W (lnGcd (l.take k)) ≤ N := by
  intro l h k
  have key : ∀ (l : List (Int × Int)) (g : Nat), sz W g ≤ N → (∀ p ∈ l, sz W p.1.natAbs ≤ N) → sz W (l.foldl (fun g p => Nat.gcd g p.1.natAbs) g) ≤ N := by
    intro l
    induction l with
    | nil => intro g hg _; exact hg
    | cons p l ih =>
      intro g hg hl
      refine ih _ ?_ (fun q hq => hl q (by simp [hq]))
      show sz W (Nat.gcd g p.1.natAbs) ≤ N
      by_cases h0 : p.1.natAbs = 0
      · rw [h0, Nat.gcd_zero_right]; exact hg
      · exact Nat.le_trans (sz_mono W2 (Nat.le_of_dvd (by omega) (Nat.gcd_dvd_right _ _))) (hl p (by simp))
  exact key _ 0 (by simp [sz_zero]) (fun p hp => h p (List.mem_of_mem_take hp))
end Go.Proofs.YtnfohbpgnbfmeaaGreatDoor
/- Layer 4 in plain words: rules, terms, what may be wrong with one, the text of a term's fields (two terms with one text are one), a map from texts to numbers. -/
namespace Go.Proofs.YtnfohbpgnbfmeaaGreatDoor
open Go.Proofs.YtnfohbpgnbfmeaaGreatDoor.Big

structure Sy where
  name : List UInt8
  arity : Int
  sort : Int
/-- a term: its number as a number, whatever its form -/
structure Tm where
  op : Int
  args : List Int
  num : Int
  sym : Int
instance : DecidableEq Tm := fun a b => decidable_of_iff (a.op = b.op ∧ a.args = b.args ∧ a.num = b.num ∧ a.sym = b.sym) (by cases a; cases b; simp)
structure Ru where
  least : Int
  most : Int
  part : Int
  sort : Int
  num : Bool
  sym : Bool
structure Po where
  syms : List Sy
  terms : List Tm
  sorts : List Int

def plRule (op : Int) : Option Ru :=
  if op = 1 ∨ op = 2 then some ⟨0, 0, 0, 1, false, false⟩
  else if op = 3 then some ⟨0, 0, 0, 2, true, false⟩
  else if op = 4 then some ⟨0, 0, 2, 0, false, true⟩
  else if op = 5 then some ⟨1, 1, 1, 1, false, false⟩
  else if op = 6 ∨ op = 7 then some ⟨2, 64, 1, 1, false, false⟩
  else if op = 8 then some ⟨2, 2, 1, 1, false, false⟩
  else if op = 9 then some ⟨3, 3, 1, 0, false, false⟩
  else if op = 10 ∨ op = 11 then some ⟨2, 2, 2, 1, false, false⟩
  else if op = 12 then some ⟨2, 64, 2, 2, false, false⟩
  else if op = 13 then some ⟨1, 1, 2, 2, true, false⟩
  else none
def plRu (op : Int) : Ru := (plRule op).getD ⟨0, 0, 0, 0, false, false⟩
def plBadSym (s : Sy) : Bool := s.name.isEmpty || decide (s.arity < 0) || decide (4 < s.arity) || (s.sort != 1 && s.sort != 2)
def plBadForm (t : Tm) : Bool := (plRule t.op).isNone || (!(plRu t.op).num && t.num != 0) || (!(plRu t.op).sym && t.sym != 0)
def plNoSym (p : Po) (t : Tm) : Bool := t.op == 4 && (decide (t.sym < 0) || decide ((p.syms.length : Int) ≤ t.sym))
def plNoTerm (p : Po) (n : Int) : Bool := decide (n < 0) || decide ((p.terms.length : Int) ≤ n)
def plNoPart (p : Po) (t : Tm) : Bool := t.args.any (plNoTerm p)
def plSymAt (p : Po) (k : Int) : Sy := p.syms[k.toNat]?.getD ⟨[], 0, 0⟩
def plSortAt (p : Po) (k : Int) : Int := p.sorts[k.toNat]?.getD 0
def plBadCount (p : Po) (t : Tm) : Bool := if t.op = 4 then (t.args.length : Int) != (plSymAt p t.sym).arity else decide ((t.args.length : Int) < (plRu t.op).least) || decide ((plRu t.op).most < t.args.length)
def plPart (p : Po) (t : Tm) (i : Nat) : Int := if t.op = 9 ∧ 0 < i then plSortAt p (t.args[1]?.getD 0) else (plRu t.op).part
def plBadSort (p : Po) (t : Tm) : Bool := t.args.zipIdx.any fun a => plSortAt p a.1 != plPart p t a.2
def plSort (p : Po) (t : Tm) : Int := if t.op = 4 then (plSymAt p t.sym).sort else if t.op = 9 then plSortAt p (t.args[1]?.getD 0) else (plRu t.op).sort
def plWrong (p : Po) (t : Tm) : Int := if plBadForm t then 6 else if plNoSym p t then 7 else if plNoPart p t then 1 else if plBadCount p t then 9 else if plBadSort p t then 8 else 0
def plFind (l : List Tm) (t : Tm) : Option Nat := l.findIdx? (fun x => decide (x = t))
def plMake (p : Po) (t : Tm) : Po × Int × Int :=
  if plWrong p t ≠ 0 then (p, 0, plWrong p t) else
  match plFind p.terms t with
  | some k => (p, k, 0)
  | none => if p.terms.length = 4096 then (p, 0, 11) else (⟨p.syms, p.terms ++ [t], p.sorts ++ [plSort p t]⟩, p.terms.length, 0)
def plDeclare (p : Po) (s : Sy) : Po × Int × Int :=
  if plBadSym s then (p, 0, 6) else if p.syms.any (fun x => x.name == s.name) then (p, 0, 7) else if p.syms.length = 256 then (p, 0, 11) else (⟨p.syms ++ [s], p.terms, p.sorts⟩, p.syms.length, 0)

/-! ### the text of a term's fields -/
def plFields (t : Tm) : List Int := [t.op, t.sym, t.num.sign, ((sz W t.num.natAbs : Nat) : Int)] ++ t.args
def spaced (l : List (List UInt8)) : List UInt8 := l.flatMap fun x => 32 :: x
def plTokens (t : Tm) : List (List UInt8) := (plFields t).map Lib.itoa ++ (dig W t.num.natAbs).map Lib.decDigits
def plText (t : Tm) : List UInt8 := spaced (plTokens t)

theorem dec_ne (u : Nat) : ∀ c ∈ Lib.decDigits u, 48 ≤ c.toNat ∧ c.toNat ≤ 57 := by
  induction u using Nat.strongRecOn with
  | _ u ih =>
    intro c hc
    rw [Lib.decDigits] at hc
    split at hc
    · simp at hc; subst hc; simp [UInt8.toNat_ofNat']; omega
    · rcases List.mem_append.1 hc with h | h
      · exact ih _ (by omega) c h
      · simp at h; subst h; simp [UInt8.toNat_ofNat']; omega
theorem dec_none (u : Nat) : Lib.decDigits u ≠ [] := by
  intro h
  have h1 := Lib.decDigits_length u
  have h2 := Lib.nDigits_pos u
  rw [h] at h1
  simp at h1
  omega
theorem ofNat_inj {a b : Nat} (ha : a < 10) (hb : b < 10) (h : UInt8.ofNat (48 + a) = UInt8.ofNat (48 + b)) : a = b := by
  have := congrArg UInt8.toNat h
  simp [UInt8.toNat_ofNat'] at this
  omega
theorem dec_inj : ∀ (u v : Nat), Lib.decDigits u = Lib.decDigits v → u = v := by
  intro u
  induction u using Nat.strongRecOn with
  | _ u ih =>
    intro v h
    rw [Lib.decDigits, Lib.decDigits.eq_def v] at h
    split at h <;> split at h
    · exact ofNat_inj (by omega) (by omega) (List.cons.inj h).1
    · have := congrArg List.length h
      have h2 := List.length_pos_iff.2 (dec_none (v / 10))
      rw [List.length_append] at this
      simp only [List.length_singleton] at this
      omega
    · have := congrArg List.length h
      have h2 := List.length_pos_iff.2 (dec_none (u / 10))
      rw [List.length_append] at this
      simp only [List.length_singleton] at this
      omega
    · have h2 := List.append_inj' h rfl
      have h3 := ih _ (by omega) _ h2.1
      have h5 := ofNat_inj (by omega) (by omega) (List.cons.inj h2.2).1
      omega
/-! ### a map from texts to numbers: the place of each in a list -/
variable {H : Type}
def mapD (l : List (List UInt8)) : DataW H := (l.zipIdx).foldl (fun D p => D.put (.string p.1) (.lit (.int .i64 (p.2 : Nat)))) (.map [])
end Go.Proofs.YtnfohbpgnbfmeaaGreatDoor
/- Bounds on rows, as layer 10 makes them: what a sum that is asked to be at most 0 comes to; a table of rows and atoms, each once; a row's text, of which just those that are the same have the same. Nothing of the program. -/
namespace Go.Proofs.YtnfohbpgnbfmeaaGreatDoor
open Big Go.WideMaps

abbrev AtRow := List (Int × Int)
def atHead (l : AtRow) : Int := match l with | [] => 0 | p :: _ => p.1
def atNeg (l : AtRow) : AtRow := lnSum (lnTimes (-1) l)
def atNeg1 (l : AtRow) : AtRow := l.map (fun p => (-p.1, p.2))
/-- the row, the number, and whether it is the atom itself -/
def atOne (l : AtRow) (c : Int) : AtRow × Int × Bool :=
  if 0 < atHead (lnOver (lnGcd l : Nat) l) then (lnOver (lnGcd l : Nat) l, (-c) / (lnGcd l : Nat), true)
  else (atNeg (lnOver (lnGcd l : Nat) l), -((-c) / (lnGcd l : Nat)) - 1, false)

theorem lnTimes_is {k : Int} (hk : k ≠ 0) {l : AtRow} (h : lnIs l) : lnIs (lnTimes k l) := by
  refine ⟨List.pairwise_map.2 h.1, fun p hp => ?_⟩
  obtain ⟨q, hq, rfl⟩ := List.mem_map.1 hp
  exact Int.mul_ne_zero (h.2 q hq) hk
theorem atNeg_eq {l : AtRow} (h : lnIs l) : atNeg l = atNeg1 l := by
  unfold atNeg
  rw [lnSum_self (lnTimes_is (by decide) h)]
  unfold lnTimes atNeg1
  refine List.map_congr_left fun p _ => ?_
  rw [show p.1 * -1 = -p.1 by omega]
theorem atNeg1_is {l : AtRow} (h : lnIs l) : lnIs (atNeg1 l) := by
  refine ⟨List.pairwise_map.2 h.1, fun p hp => ?_⟩
  obtain ⟨q, hq, rfl⟩ := List.mem_map.1 hp
  have := h.2 q hq
  show -q.1 ≠ 0
  omega
theorem atNeg1_head (l : AtRow) : atHead (atNeg1 l) = -atHead l := by cases l <;> simp [atNeg1, atHead]
theorem atNeg1_val (v : Int → Int) : ∀ (l : AtRow), lnVal v (atNeg1 l) = -lnVal v l
  | [] => rfl
  | p :: l => by
    have ih := atNeg1_val v l
    unfold atNeg1 at ih ⊢
    rw [List.map_cons]
    simp only [lnVal, ih, Int.neg_mul]
    omega
theorem lnGcd_foldN : ∀ (l : AtRow) (g : Nat), (atNeg1 l).foldl (fun g p => Nat.gcd g p.1.natAbs) g = l.foldl (fun g p => Nat.gcd g p.1.natAbs) g
  | [], _ => rfl
  | p :: l, g => by
    have ih := lnGcd_foldN l
    unfold atNeg1 at ih ⊢
    rw [List.map_cons, List.foldl_cons, List.foldl_cons, ih]
    simp
theorem atNeg1_gcd (l : AtRow) : lnGcd (atNeg1 l) = lnGcd l := lnGcd_foldN l 0
theorem lnOver_ne {g : Int} {l : AtRow} (h : l ≠ []) : lnOver g l ≠ [] := by
  unfold lnOver
  simpa using h
theorem lnOver_gcd_aux (g : Nat) (hg : 0 < g) : ∀ (l : AtRow) (a : Nat), (∀ p ∈ l, (g : Int) ∣ p.1) → (lnOver g l).foldl (fun g p => Nat.gcd g p.1.natAbs) a * g = l.foldl (fun g p => Nat.gcd g p.1.natAbs) (a * g)
  | [], _, _ => rfl
  | p :: l, a, hd => by
    have ih := lnOver_gcd_aux g hg l
    unfold lnOver at ih ⊢
    rw [List.map_cons, List.foldl_cons, List.foldl_cons, ih _ (fun q hq => hd q (by simp [hq])), ← Nat.gcd_mul_right]
    have h1 := hd p (by simp)
    have h2 : (p.1 / (g : Int)).natAbs * g = p.1.natAbs := by
      have := congrArg Int.natAbs (Int.ediv_mul_cancel h1)
      rwa [Int.natAbs_mul, Int.natAbs_natCast] at this
    show (List.foldl _ (Nat.gcd (a * g) ((p.1 / (g : Int)).natAbs * g)) l) = _
    rw [h2]
theorem lnOver_gcd {l : AtRow} (h0 : 0 < lnGcd l) : lnGcd (lnOver (lnGcd l : Nat) l) = 1 := by
  have h1 := lnOver_gcd_aux (lnGcd l) h0 l 0 (fun p hp => lnGcd_dvd hp)
  rw [Nat.zero_mul] at h1
  have h2 : lnGcd (lnOver (lnGcd l : Nat) l) * lnGcd l = 1 * lnGcd l := by rw [Nat.one_mul]; exact h1
  exact Nat.eq_of_mul_eq_mul_right h0 h2

/-- what a row of a table is -/
structure AtRowOk (r : AtRow) : Prop where
  is : lnIs r
  ne : r ≠ []
  head : 0 < atHead r
  gcd : lnGcd r = 1
theorem atHead_ne {l : AtRow} (h : lnIs l) (h0 : l ≠ []) : atHead l ≠ 0 := by
  cases l with
  | nil => exact absurd rfl h0
  | cons p l => exact h.2 p (by simp)
theorem atOne_ok {l : AtRow} (h : lnIs l) (h0 : l ≠ []) (c : Int) : AtRowOk (atOne l c).1 := by
  have hg := lnGcd_pos h0 h.2
  have hov := lnOver_is (g := (lnGcd l : Nat)) (fun p hp => lnGcd_dvd hp) h
  have hne := lnOver_ne (g := (lnGcd l : Nat)) h0
  have hgc := lnOver_gcd hg
  unfold atOne
  by_cases hp : 0 < atHead (lnOver (lnGcd l : Nat) l)
  · rw [if_pos hp]
    exact ⟨hov, hne, hp, hgc⟩
  · rw [if_neg hp]
    have h1 := atHead_ne hov hne
    show AtRowOk (atNeg _)
    rw [atNeg_eq hov]
    refine ⟨atNeg1_is hov, by unfold atNeg1; simpa using hne, by rw [atNeg1_head]; omega, by rw [atNeg1_gcd]; exact hgc⟩
/-- it asks the same -/
theorem atOne_means {l : AtRow} (h : lnIs l) (h0 : l ≠ []) (c : Int) (v : Int → Int) : decide (lnVal v l + c ≤ 0) = (decide (lnVal v (atOne l c).1 ≤ (atOne l c).2.1) == (atOne l c).2.2) := by
  have hg := lnGcd_pos h0 h.2
  have hov := lnOver_is (g := (lnGcd l : Nat)) (fun p hp => lnGcd_dvd hp) h
  have ht := lnOver_tight v (g := (lnGcd l : Nat)) (by omega) (ps := l) (fun p hp => lnGcd_dvd hp) c
  unfold atOne
  by_cases hp : 0 < atHead (lnOver (lnGcd l : Nat) l)
  · rw [if_pos hp]
    simp [ht]
  · rw [if_neg hp]
    show _ = (decide (lnVal v (atNeg _) ≤ _) == false)
    rw [atNeg_eq hov, atNeg1_val]
    by_cases h1 : lnVal v l + c ≤ 0
    · have h2 := ht.1 h1
      have h3 : ¬ (-lnVal v (lnOver (lnGcd l : Nat) l) ≤ -((-c) / (lnGcd l : Nat)) - 1) := by omega
      simp [h1, h3]
    · have h2 := fun hh => h1 (ht.2 hh)
      have h3 : -lnVal v (lnOver (lnGcd l : Nat) l) ≤ -((-c) / (lnGcd l : Nat)) - 1 := by omega
      simp [h1, h3]
theorem atOne_terms (l : AtRow) (c : Int) (h : lnIs l) : ∀ p ∈ (atOne l c).1, ∃ q ∈ l, q.2 = p.2 ∧ p.1.natAbs ≤ q.1.natAbs := by
  have hov := lnOver_is (g := (lnGcd l : Nat)) (fun p hp => lnGcd_dvd hp) h
  unfold atOne
  intro p hp
  split at hp
  · obtain ⟨q, hq, rfl⟩ := List.mem_map.1 hp
    exact ⟨q, hq, rfl, Int.natAbs_ediv_le_natAbs _ _⟩
  · have hp : p ∈ atNeg (lnOver (lnGcd l : Nat) l) := hp
    rw [atNeg_eq hov] at hp
    obtain ⟨r, hr, rfl⟩ := List.mem_map.1 hp
    obtain ⟨q, hq, rfl⟩ := List.mem_map.1 hr
    exact ⟨q, hq, rfl, by show (-(q.1 / _)).natAbs ≤ _; rw [Int.natAbs_neg]; exact Int.natAbs_ediv_le_natAbs _ _⟩
theorem atOne_len (l : AtRow) (c : Int) (h : lnIs l) : (atOne l c).1.length = l.length := by
  have hov := lnOver_is (g := (lnGcd l : Nat)) (fun p hp => lnGcd_dvd hp) h
  unfold atOne
  split
  · exact List.length_map _
  · show (atNeg _).length = _
    rw [atNeg_eq hov]
    simp [atNeg1, lnOver]
theorem atOne_sz {N : Nat} {l : AtRow} (h : lnIs l) (hs : ∀ p ∈ l, sz W p.1.natAbs ≤ N) (c : Int) : ∀ p ∈ (atOne l c).1, sz W p.1.natAbs ≤ N := by
  intro p hp
  obtain ⟨q, hq, -, h1⟩ := atOne_terms l c h p hp
  exact Nat.le_trans (sz_mono W2 h1) (hs q hq)
theorem atOne_val_sz {N : Nat} (hN : 1 ≤ N) {l : AtRow} {c : Int} (hs : sz W c.natAbs ≤ N) : sz W (atOne l c).2.1.natAbs ≤ N + 1 := by
  have h1 : sz W ((-c) / (lnGcd l : Nat) : Int).natAbs ≤ N := Nat.le_trans (sz_mono W2 (Int.natAbs_ediv_le_natAbs _ _)) (by rw [Int.natAbs_neg]; exact hs)
  unfold atOne
  split
  · exact Nat.le_trans h1 (by omega)
  · show sz W (-((-c) / (lnGcd l : Nat) : Int) - 1).natAbs ≤ N + 1
    refine Nat.le_trans (sz_mono W2 (show _ ≤ ((-c) / (lnGcd l : Nat) : Int).natAbs + (1 : Nat) by omega)) (sz_add W2 h1 ?_)
    exact Nat.le_trans (sz_le_of_lt W2 (by decide : 1 < W ^ 1)) hN

/-! ### a table -/
structure AtS where
  rows : List AtRow
  atoms : List (Nat × Int)
/-- what is there already, or one more -/
def atAdd {α : Type} [DecidableEq α] (l : List α) (x : α) : List α := if x ∈ l then l else l ++ [x]
def atIdx {α : Type} [DecidableEq α] (l : List α) (x : α) : Nat := l.idxOf x
theorem atIdx_snoc {α : Type} [DecidableEq α] (l : List α) (x y : α) : atIdx (l ++ [y]) x = if x ∈ l then atIdx l x else if y = x then l.length else l.length + 1 := by
  unfold atIdx
  rw [List.idxOf_append]
  split
  · rfl
  · rename_i h
    by_cases e : y = x
    · subst e; simp
    · have e' : (y == x) = false := by simpa using e
      rw [if_neg e, List.idxOf_cons, e']
      show List.idxOf x [] + 1 + l.length = l.length + 1
      have : List.idxOf x ([] : List α) = 0 := rfl
      omega
theorem atIdx_len {α : Type} [DecidableEq α] {l : List α} {x : α} (h : x ∉ l) : atIdx l x = l.length := List.idxOf_eq_length h
theorem atIdx_lt {α : Type} [DecidableEq α] {l : List α} {x : α} (h : x ∈ l) : atIdx l x < l.length := List.idxOf_lt_length_of_mem h
theorem atIdx_get {α : Type} [DecidableEq α] {l : List α} {x : α} (h : atIdx l x < l.length) : l[atIdx l x] = x := List.getElem_idxOf h
theorem atAdd_nodup {α : Type} [DecidableEq α] {l : List α} (h : l.Nodup) (x : α) : (atAdd l x).Nodup := by
  unfold atAdd
  split
  · exact h
  · rename_i hx
    refine List.nodup_append.2 ⟨h, by simp, fun a ha b hb e => ?_⟩
    rw [List.mem_singleton.1 hb] at e
    exact hx (e ▸ ha)
theorem atAdd_at {α : Type} [DecidableEq α] (l : List α) (x : α) : ∃ h : atIdx l x < (atAdd l x).length, (atAdd l x)[atIdx l x]'h = x := by
  by_cases hx : x ∈ l
  · have h := atIdx_lt hx
    have e : atAdd l x = l := by unfold atAdd; rw [if_pos hx]
    simp only [e]
    exact ⟨h, atIdx_get h⟩
  · have e : atAdd l x = l ++ [x] := by unfold atAdd; rw [if_neg hx]
    have e2 := atIdx_len hx
    simp only [e, e2]
    exact ⟨by simp, by simp⟩
theorem atAdd_len {α : Type} [DecidableEq α] (l : List α) (x : α) : (atAdd l x).length ≤ l.length + 1 := by unfold atAdd; split <;> simp
theorem atAdd_le {α : Type} [DecidableEq α] (l : List α) (x : α) : l.length ≤ (atAdd l x).length := by unfold atAdd; split <;> simp
def atLay (s : AtS) (r : AtRow) (k : Int) : AtS × Nat :=
  (⟨atAdd s.rows r, atAdd s.atoms (atIdx s.rows r, k)⟩, atIdx s.atoms (atIdx s.rows r, k))
/-- what Ask answers, and the table behind it -/
def atAsk (s : AtS) (l : AtRow) (c : Int) : AtS × Int × Bool :=
  if l = [] then (s, -1, decide (c ≤ 0)) else ((atLay s (atOne l c).1 (atOne l c).2.1).1, ((atLay s (atOne l c).1 (atOne l c).2.1).2 : Int), (atOne l c).2.2)
/-- .. also of what is no sum -/
def atAsk1 (s : AtS) (a : AtRow × Int) : AtS := if lnIs a.1 then (atAsk s a.1 a.2).1 else s
structure AtGood (N : Nat) (s : AtS) : Prop where
  rows : s.rows.Nodup
  atoms : s.atoms.Nodup
  ok : ∀ r ∈ s.rows, AtRowOk r
  sz : ∀ r ∈ s.rows, ∀ p ∈ r, sz W p.1.natAbs ≤ N
  len : ∀ r ∈ s.rows, r.length ≤ 1000
  wf : ∀ r ∈ s.rows, ∀ p ∈ r, -9223372036854775808 ≤ p.2 ∧ p.2 ≤ 9223372036854775807
  low : ∀ a ∈ s.atoms, a.1 < s.rows.length
  vsz : ∀ a ∈ s.atoms, Big.sz W a.2.natAbs ≤ N
theorem AtGood.nil (N : Nat) : AtGood N ⟨[], []⟩ := ⟨by simp, by simp, by simp, by simp, by simp, by simp, by simp, by simp⟩
theorem AtGood.lay {N : Nat} {s : AtS} (h : AtGood N s) {r : AtRow} {k : Int} (hr : AtRowOk r) (hs : ∀ p ∈ r, Big.sz W p.1.natAbs ≤ N) (hl : r.length ≤ 1000) (hw : ∀ p ∈ r, -9223372036854775808 ≤ p.2 ∧ p.2 ≤ 9223372036854775807) (hk : Big.sz W k.natAbs ≤ N) : AtGood N (atLay s r k).1 := by
  have hmem : ∀ q ∈ atAdd s.rows r, q ∈ s.rows ∨ q = r := by
    intro q hq
    unfold atAdd at hq
    split at hq
    · exact .inl hq
    · simpa using hq
  have hmem2 : ∀ q ∈ atAdd s.atoms (atIdx s.rows r, k), q ∈ s.atoms ∨ q = (atIdx s.rows r, k) := by
    intro q hq
    unfold atAdd at hq
    split at hq
    · exact .inl hq
    · simpa using hq
  refine ⟨atAdd_nodup h.rows _, atAdd_nodup h.atoms _, fun q hq => ?_, fun q hq => ?_, fun q hq => ?_, fun q hq => ?_, fun a ha => ?_, fun a ha => ?_⟩
  · rcases hmem q hq with hq | rfl
    · exact h.ok q hq
    · exact hr
  · rcases hmem q hq with hq | rfl
    · exact h.sz q hq
    · exact hs
  · rcases hmem q hq with hq | rfl
    · exact h.len q hq
    · exact hl
  · rcases hmem q hq with hq | rfl
    · exact h.wf q hq
    · exact hw
  · rcases hmem2 a ha with ha | rfl
    · exact Nat.lt_of_lt_of_le (h.low a ha) (atAdd_le _ _)
    · exact (show atIdx s.rows r < (atAdd s.rows r).length from (atAdd_at s.rows r).1)
  · rcases hmem2 a ha with ha | rfl
    · exact h.vsz a ha
    · exact hk
theorem AtGood.ask {s : AtS} (h : AtGood 7 s) {l : AtRow} {c : Int} (hI : lnIs l) (hs : ∀ p ∈ l, Big.sz W p.1.natAbs ≤ 6) (hc : Big.sz W c.natAbs ≤ 6) (hl : l.length ≤ 1000) (hw : ∀ p ∈ l, -9223372036854775808 ≤ p.2 ∧ p.2 ≤ 9223372036854775807) : AtGood 7 (atAsk s l c).1 := by
  unfold atAsk
  by_cases h0 : l = []
  · rw [if_pos h0]; exact h
  · rw [if_neg h0]
    refine h.lay (atOne_ok hI h0 c) (fun p hp => Nat.le_trans (atOne_sz hI hs c p hp) (by decide)) (by rw [atOne_len l c hI]; exact hl) (fun p hp => ?_) (atOne_val_sz (N := 6) (by decide) hc)
    obtain ⟨q, hq, e, -⟩ := atOne_terms l c hI p hp
    rw [← e]; exact hw q hq
theorem atAsk_len (s : AtS) (l : AtRow) (c : Int) : (atAsk s l c).1.rows.length ≤ s.rows.length + 1 ∧ (atAsk s l c).1.atoms.length ≤ s.atoms.length + 1 := by
  unfold atAsk
  by_cases h0 : l = []
  · rw [if_pos h0]; simp
  · rw [if_neg h0]; exact ⟨atAdd_len _ _, atAdd_len _ _⟩
/-! ### a row's text -/
def atSize (z : Int) : List UInt8 := (dig W z.natAbs).flatMap fun u => Lib.decDigits u ++ [44]
def atSign (z : Int) : UInt8 := if z < 0 then 45 else 43
def atPart (p : Int × Int) : List UInt8 := Lib.itoa p.2 ++ [atSign p.1] ++ atSize p.1
def atText (l : AtRow) : List UInt8 := l.flatMap atPart
theorem atText_next (l : AtRow) (k : Nat) (h : k < l.length) : atText (l.take (k + 1)) = atText (l.take k) ++ atPart l[k] := by
  unfold atText
  rw [List.take_succ_eq_append_getElem h, List.flatMap_append]
  simp
theorem nonDigit {c : UInt8} (h : c = 43 ∨ c = 44 ∨ c = 45) : ¬ (48 ≤ c.toNat ∧ c.toNat ≤ 57) := by
  rcases h with rfl | rfl | rfl <;> decide
theorem cut_digits {c d : UInt8} (hc : ¬ (48 ≤ c.toNat ∧ c.toNat ≤ 57)) (hd : ¬ (48 ≤ d.toNat ∧ d.toNat ≤ 57)) : ∀ (a b r s : List UInt8), (∀ x ∈ a, 48 ≤ x.toNat ∧ x.toNat ≤ 57) → (∀ x ∈ b, 48 ≤ x.toNat ∧ x.toNat ≤ 57) → a ++ c :: r = b ++ d :: s → a = b ∧ c = d ∧ r = s
  | [], [], r, s, _, _, h => by simp at h; exact ⟨rfl, h.1, h.2⟩
  | [], y :: b, r, s, _, hb, h => by
    simp only [List.nil_append, List.cons_append, List.cons.injEq] at h
    exact absurd (h.1 ▸ hb y (by simp)) hc
  | x :: a, [], r, s, ha, _, h => by
    simp only [List.nil_append, List.cons_append, List.cons.injEq] at h
    exact absurd (h.1 ▸ ha x (by simp)) hd
  | x :: a, y :: b, r, s, ha, hb, h => by
    simp only [List.cons_append, List.cons.injEq] at h
    obtain ⟨h1, h2, h3⟩ := cut_digits hc hd a b r s (fun z hz => ha z (by simp [hz])) (fun z hz => hb z (by simp [hz])) h.2
    exact ⟨by rw [h.1, h1], h2, h3⟩
theorem cut_itoa {c d : UInt8} (hc : ¬ (48 ≤ c.toNat ∧ c.toNat ≤ 57)) (hd : ¬ (48 ≤ d.toNat ∧ d.toNat ≤ 57)) (x y : Int) (r s : List UInt8) (h : Lib.itoa x ++ c :: r = Lib.itoa y ++ d :: s) : x = y ∧ c = d ∧ r = s := by
  have hn : ∀ (u : Nat) (e : UInt8) (t l : List UInt8), Lib.decDigits u ++ e :: t ≠ 45 :: l := by
    intro u e t l he
    cases hu : Lib.decDigits u with
    | nil => exact dec_none u hu
    | cons z zs =>
      rw [hu] at he
      injection he with he _
      have := dec_ne u z (by rw [hu]; simp)
      rw [he] at this
      exact absurd this (by decide)
  by_cases hx : x < 0 <;> by_cases hy : y < 0
  · have ex : Lib.itoa x = 45 :: Lib.decDigits x.natAbs := by unfold Lib.itoa; rw [if_pos hx]
    have ey : Lib.itoa y = 45 :: Lib.decDigits y.natAbs := by unfold Lib.itoa; rw [if_pos hy]
    rw [ex, ey] at h
    obtain ⟨h1, h2, h3⟩ := cut_digits hc hd _ _ _ _ (dec_ne _) (dec_ne _) (List.cons.inj h).2
    have := dec_inj _ _ h1
    exact ⟨by omega, h2, h3⟩
  · have ex : Lib.itoa x = 45 :: Lib.decDigits x.natAbs := by unfold Lib.itoa; rw [if_pos hx]
    have ey : Lib.itoa y = Lib.decDigits y.toNat := by unfold Lib.itoa; rw [if_neg hy]
    rw [ex, ey] at h
    exact absurd h.symm (hn _ _ _ _)
  · have ex : Lib.itoa x = Lib.decDigits x.toNat := by unfold Lib.itoa; rw [if_neg hx]
    have ey : Lib.itoa y = 45 :: Lib.decDigits y.natAbs := by unfold Lib.itoa; rw [if_pos hy]
    rw [ex, ey] at h
    exact absurd h (hn _ _ _ _)
  · have ex : Lib.itoa x = Lib.decDigits x.toNat := by unfold Lib.itoa; rw [if_neg hx]
    have ey : Lib.itoa y = Lib.decDigits y.toNat := by unfold Lib.itoa; rw [if_neg hy]
    rw [ex, ey] at h
    obtain ⟨h1, h2, h3⟩ := cut_digits hc hd _ _ _ _ (dec_ne _) (dec_ne _) h
    have := dec_inj _ _ h1
    exact ⟨by omega, h2, h3⟩
/-- what is cut into numbers and the signs behind them -/
def atToks (l : List (Int × UInt8)) : List UInt8 := l.flatMap fun p => Lib.itoa p.1 ++ [p.2]
theorem atToks_inj : ∀ (l m : List (Int × UInt8)), (∀ p ∈ l, p.2 = 43 ∨ p.2 = 44 ∨ p.2 = 45) → (∀ p ∈ m, p.2 = 43 ∨ p.2 = 44 ∨ p.2 = 45) → atToks l = atToks m → l = m
  | [], [], _, _, _ => rfl
  | [], y :: m, _, _, h => by simp [atToks] at h
  | x :: l, [], _, _, h => by simp [atToks] at h
  | x :: l, y :: m, hl, hm, h => by
    have h' : Lib.itoa x.1 ++ x.2 :: atToks l = Lib.itoa y.1 ++ y.2 :: atToks m := by
      simpa [atToks] using h
    obtain ⟨h1, h2, h3⟩ := cut_itoa (nonDigit (hl x (by simp))) (nonDigit (hm y (by simp))) _ _ _ _ h'
    rw [Prod.ext h1 h2, atToks_inj l m (fun p hp => hl p (by simp [hp])) (fun p hp => hm p (by simp [hp])) h3]
def atPartT (p : Int × Int) : List (Int × UInt8) := (p.2, atSign p.1) :: (dig W p.1.natAbs).map fun (u : Nat) => ((u : Int), (44 : UInt8))
theorem itoa_nat (u : Nat) : Lib.itoa (u : Int) = Lib.decDigits u := by unfold Lib.itoa; rw [if_neg (by omega)]; simp
theorem atPart_toks (p : Int × Int) : atPart p = atToks (atPartT p) := by
  have h : ∀ l : List Nat, (l.flatMap fun u => Lib.decDigits u ++ [(44 : UInt8)]) = atToks (l.map fun (u : Nat) => ((u : Int), (44 : UInt8))) := by
    intro l
    induction l with
    | nil => rfl
    | cons u l ih =>
      rw [List.flatMap_cons, ih]
      simp [atToks, itoa_nat]
  unfold atPart atSize
  rw [h]
  simp [atPartT, atToks]
theorem atToks_append (l m : List (Int × UInt8)) : atToks (l ++ m) = atToks l ++ atToks m := by simp [atToks]
theorem atText_toks (l : AtRow) : atText l = atToks (l.flatMap atPartT) := by
  induction l with
  | nil => rfl
  | cons p l ih =>
    unfold atText at ih ⊢
    rw [List.flatMap_cons, List.flatMap_cons, ih, atToks_append, atPart_toks]
theorem atSign_ne (z : Int) : atSign z ≠ 44 := by unfold atSign; split <;> decide
theorem atSign_or (z : Int) : atSign z = 43 ∨ atSign z = 44 ∨ atSign z = 45 := by unfold atSign; split <;> simp
theorem atPartT_or (l : AtRow) : ∀ p ∈ l.flatMap atPartT, p.2 = 43 ∨ p.2 = 44 ∨ p.2 = 45 := by
  intro p hp
  obtain ⟨q, _, hp⟩ := List.mem_flatMap.1 hp
  rcases List.mem_cons.1 hp with rfl | hp
  · exact atSign_or _
  · obtain ⟨u, _, rfl⟩ := List.mem_map.1 hp
    exact .inr (.inl rfl)
theorem cut_words : ∀ (a b : List Nat) (r s : List (Int × UInt8)), (∀ p t, r = p :: t → p.2 ≠ 44) → (∀ p t, s = p :: t → p.2 ≠ 44) → (a.map fun (u : Nat) => ((u : Int), (44 : UInt8))) ++ r = (b.map fun (u : Nat) => ((u : Int), (44 : UInt8))) ++ s → a = b ∧ r = s
  | [], [], r, s, _, _, h => ⟨rfl, h⟩
  | [], y :: b, r, s, hr, _, h => absurd rfl (hr _ _ h)
  | x :: a, [], r, s, _, hs, h => absurd rfl (hs _ _ h.symm)
  | x :: a, y :: b, r, s, hr, hs, h => by
    simp only [List.map_cons, List.cons_append, List.cons.injEq, Prod.mk.injEq] at h
    obtain ⟨h1, h2⟩ := cut_words a b r s hr hs h.2
    exact ⟨by rw [h1, show x = y by omega], h2⟩
theorem atToks_row : ∀ (l m : AtRow), l.flatMap atPartT = m.flatMap atPartT → l = m
  | [], [], _ => rfl
  | [], y :: m, h => by simp [atPartT] at h
  | x :: l, [], h => by simp [atPartT] at h
  | x :: l, y :: m, h => by
    have hf : ∀ (l : AtRow) p t, l.flatMap atPartT = p :: t → p.2 ≠ 44 := by
      intro l p t e
      cases l with
      | nil => simp at e
      | cons q l =>
        rw [List.flatMap_cons] at e
        unfold atPartT at e
        rw [List.cons_append] at e
        injection e with e _
        rw [← e]
        exact atSign_ne _
    rw [List.flatMap_cons, List.flatMap_cons] at h
    unfold atPartT at h
    rw [List.cons_append, List.cons_append] at h
    injection h with h0 h
    injection h0 with h1 h2
    obtain ⟨h3, h4⟩ := cut_words _ _ _ _ (hf l) (hf m) h
    have h5 := dig_inj W2 h3
    have h6 : (x.1 < 0) ↔ (y.1 < 0) := by
      unfold atSign at h2
      by_cases a : x.1 < 0 <;> by_cases b : y.1 < 0
      · simp [a, b]
      · rw [if_pos a, if_neg b] at h2; exact absurd h2 (by decide)
      · rw [if_neg a, if_pos b] at h2; exact absurd h2 (by decide)
      · simp [a, b]
    have e : x = y := Prod.ext (by omega) h1
    rw [e, atToks_row l m h4]
theorem atText_inj (l m : AtRow) (h : atText l = atText m) : l = m := by
  rw [atText_toks, atText_toks] at h
  exact atToks_row l m (atToks_inj _ _ (atPartT_or l) (atPartT_or m) h)
theorem atSize_inj (x y : Int) (h : atSize x = atSize y) : x.natAbs = y.natAbs := by
  have e : ∀ z : Int, atPart (z.natAbs, 0) = Lib.itoa 0 ++ [43] ++ atSize z := by
    intro z
    unfold atPart atSign atSize
    simp
  have h1 : atText [((x.natAbs : Int), 0)] = atText [((y.natAbs : Int), 0)] := by
    simp only [atText, List.flatMap_cons, List.flatMap_nil, List.append_nil, e, h]
  have := atText_inj _ _ h1
  simp at this
  omega
theorem idx_map {α β : Type} [DecidableEq α] [DecidableEq β] {f : α → β} (hf : ∀ a b, f a = f b → a = b) : ∀ (l : List α) (x : α), atIdx (l.map f) (f x) = atIdx l x
  | [], _ => rfl
  | y :: l, x => by
    have ih := idx_map hf l x
    unfold atIdx at ih ⊢
    rw [List.map_cons, List.idxOf_cons, List.idxOf_cons, ih]
    by_cases e : y = x
    · subst e; simp
    · have e1 : (f y == f x) = false := by simpa using fun h => e (hf _ _ h)
      have e2 : (y == x) = false := by simpa using e
      rw [e1, e2]
/-- a map from texts to their places in a list -/
structure PlIs {H : Type} (D : DataW H) (l : List (List UInt8)) : Prop where
  isMap : Maps.IsMap D
  has : ∀ x, Maps.has D (.string x) = decide (x ∈ l)
  idx : ∀ x, x ∈ l → ∀ z, D.atKey (.string x) z = .lit (.int .i64 (atIdx l x : Nat))
theorem PlIs.nil {H : Type} : PlIs (.map [] : DataW H) [] := ⟨⟨[], rfl⟩, fun _ => rfl, fun x h => by simp at h⟩
theorem PlIs.new {H : Type} {D : DataW H} {l : List (List UInt8)} (h : PlIs D l) {x : List UInt8} (hx : x ∉ l) : PlIs (D.put (.string x) (.lit (.int .i64 (l.length : Nat)))) (l ++ [x]) := by
  refine ⟨h.isMap.put _ _, fun y => ?_, fun y hy z => ?_⟩
  · by_cases e : x = y
    · subst e
      rw [Maps.has_put_same h.isMap (by trivial)]
      simp
    · rw [Maps.has_put_other (by intro h; injection h with h; exact e h.symm), h.has]
      have e' : ¬ y = x := fun h => e h.symm
      simp [e']
  · by_cases e : y = x
    · subst e
      rw [Maps.atKey_put_same h.isMap (by trivial), atIdx_snoc, if_neg hx, if_pos rfl]
    · have hyl : y ∈ l := by
        rcases List.mem_append.1 hy with hy | hy
        · exact hy
        · exact absurd (List.mem_singleton.1 hy) e
      rw [Maps.atKey_put_other (by intro h; injection h with h; exact e h), h.idx y hyl, atIdx_snoc, if_pos hyl]
def atKey (a : Nat × Int) : List UInt8 := keyBytes [.int .i64 (a.1 : Nat), .bool (decide (a.2 < 0)), .string (atSize a.2)]
end Go.Proofs.YtnfohbpgnbfmeaaGreatDoor
/- How a slice of unsigned or signed numbers reads in memory: At w k v l says that the value v is a slice whose elements, of integer kind k, are the numbers l. -/
namespace Go.Proofs.YtnfohbpgnbfmeaaGreatDoor
open Go.RowKit

/-- a fact that the walk does not take for a rule -/
theorem hid {p : Prop} (h : p) : Hid p := h

/-- the slice v holds the numbers l -/
def At (w : World) (k : IntKind) (v : Value) (l : List Nat) : Prop :=
  ∃ p cap, v = .slice p l.length cap ∧ l.length ≤ cap ∧ cap ≤ maxLen ∧ (p = none → cap = 0) ∧
    (0 < l.length → ∃ b off, p = some ⟨b, off, none⟩ ∧ b < w.heap.size ∧ ∀ i (h : i < l.length), w.cell? ⟨b, off + i, none⟩ = some (.int k (l[i]'h : Nat)))

theorem At.nil (w : World) (k : IntKind) : At w k (.slice none 0 0) [] := ⟨none, 0, rfl, by simp, by simp [maxLen], fun _ => rfl, fun h => absurd h (by simp)⟩
theorem At.below {w w' : World} {k : IntKind} {v : Value} {l : List Nat} (h : At w k v l) (hb : Below w.heap.size w w') : At w' k v l := by
  obtain ⟨p, cap, hv, h1, h2, h3, h4⟩ := h
  refine ⟨p, cap, hv, h1, h2, h3, fun hp => ?_⟩
  obtain ⟨b, off, h5, h6, h7⟩ := h4 hp
  exact ⟨b, off, h5, Nat.lt_of_lt_of_le h6 hb.size, fun i hi => (hb.cell (p := ⟨b, off + i, none⟩) h6).trans (h7 i hi)⟩
/-- a cut at the end -/
theorem At.take {w : World} {k : IntKind} {p : Option Addr} {n cap : Nat} {l : List Nat} (h : At w k (.slice p n cap) l) (m : Nat) (hm : m ≤ l.length) : At w k (.slice p m cap) (l.take m) := by
  obtain ⟨p', cap', hv, h1, h2, h3, h4⟩ := h
  cases hv
  refine ⟨p, cap, by simp [Nat.min_eq_left hm], by simp; omega, h2, h3, fun hp => ?_⟩
  rw [List.length_take, Nat.min_eq_left hm] at hp
  obtain ⟨b, off, h5, h6, h7⟩ := h4 (by omega)
  exact ⟨b, off, h5, h6, fun i hi => by rw [h7 i (by simp at hi; omega)]; simp⟩

/-- what a call answers: a slice of numbers l; memory that was there stays -/
def RAt (k : IntKind) (l : List Nat) (w : World) (e : Ending) (w' : World) : Prop := ∃ v', e = .returned v' ∧ At w' k v' l ∧ Below w.heap.size w w'
/-- likewise, nothing having turned -/
def RSame (k : IntKind) (l : List Nat) (w : World) (e : Ending) (w' : World) : Prop := ∃ v', e = .returned v' ∧ At w' k v' l ∧ w = w'
/-- a whole number by its sign and size -/
def sg (neg : Bool) (n : Nat) : Int := if neg then -(n : Int) else n
/-- a whole number as it is told -/
def IntAt (w : World) (v : Value) (z : Int) : Prop := ∃ s, v = .agg #[.bool (decide (z < 0)), s] ∧ At w .u64 s (Big.dig Big.W z.natAbs)
def RInt (z : Int) (w : World) (e : Ending) (w' : World) : Prop := ∃ v, e = .returned v ∧ IntAt w' v z ∧ Below w.heap.size w w'
/-- a whole number as it is handed in -/
def RawAt (w : World) (v : Value) (z : Int) : Prop := ∃ neg s l, v = .agg #[.bool neg, s] ∧ At w .u64 s l ∧ Big.Small Big.W l ∧ l.length ≤ 1099511627776 ∧ z = sg neg (Big.val Big.W l)
def RBool (b : Bool) (w : World) (e : Ending) (w' : World) : Prop := e = .returned (.bool b) ∧ Below w.heap.size w w'
def RNum (k : IntKind) (n : Int) (w : World) (e : Ending) (w' : World) : Prop := e = .returned (.int k n) ∧ Below w.heap.size w w'
theorem IntAt.below {w w' : World} {v : Value} {z : Int} (h : IntAt w v z) (hb : Below w.heap.size w w') : IntAt w' v z := by
  obtain ⟨s, hs, ha⟩ := h
  exact ⟨s, hs, ha.below hb⟩
theorem RawAt.below {w w' : World} {v : Value} {z : Int} (h : RawAt w v z) (hb : Below w.heap.size w w') : RawAt w' v z := by
  obtain ⟨neg, s, l, hs, ha, r⟩ := h
  exact ⟨neg, s, l, hs, ha.below hb, r⟩
theorem sg_natAbs (neg : Bool) (n : Nat) : (sg neg n).natAbs = n := by unfold sg; cases neg <;> simp
theorem sg_neg (neg : Bool) (n : Nat) (h : n ≠ 0) : decide (sg neg n < 0) = neg := by unfold sg; cases neg <;> simp <;> omega
theorem sg_zero (neg : Bool) : sg neg 0 = 0 := by unfold sg; cases neg <;> simp
theorem IntAt.zero (w : World) : IntAt w (.agg #[.bool false, .slice none 0 0]) 0 := ⟨_, by simp, At.nil w .u64⟩
theorem IntAt.mk {w : World} {neg : Bool} {s : Value} {n : Nat} (h0 : n ≠ 0) (h : At w .u64 s (Big.dig Big.W n)) : IntAt w (.agg #[.bool neg, s]) (sg neg n) :=
  ⟨s, by rw [sg_neg neg n h0], by rw [sg_natAbs]; exact h⟩
/-- a fresh cell of its own -/
theorem At.one (w : World) (k : IntKind) (x : Nat) (t : TypeId) : At (w.alloc (.cells #[.int k x] t)) k (.slice (some ⟨w.heap.size, 0, none⟩) 1 1) [x] :=
  ⟨_, 1, rfl, by simp, by simp [maxLen], fun h => (by cases h), fun _ => ⟨_, _, rfl, by simp, fun i hi => by
    obtain rfl : i = 0 := by simp at hi; omega
    simp [go_sem]⟩⟩
theorem below1 (w : World) (o : Obj) : Below w.heap.size w (w.alloc o) := (Below.refl _ _).alloc (Nat.le_refl _) o
def lenOf : Value → Nat | .slice _ n _ => n | _ => 0

theorem quiet_add_same {P : Program} {f : FuncId} {args : Array Value} {w : World} {a n : Nat} {v : Value}
    (h : Calls P f args (w.drewN (a + n)) fun e w' => e = .returned v ∧ w' = w.drewN (a + n)) :
    Calls P f args (w.drewN (a + n)) fun e w'' => e = .returned v ∧ ∃ m, w'' = w.drewN (a + m) :=
  h.mono fun _ _ ⟨he, hm⟩ => ⟨he, n, hm⟩
theorem At.drew {w : World} {k : IntKind} {v : Value} {l : List Nat} (h : At w k v l) : At w.drew k v l := h
theorem At.alloc {w : World} {k : IntKind} {v : Value} {l : List Nat} (h : At w k v l) (o : Obj) : At (w.alloc o) k v l := h.below (below1 w o)
/-- a slice cut behind its first m elements -/
def cutTo (v : Value) (m : Nat) : Value := match v with | .slice p _ c => .slice p m c | v => v
theorem At.cut {w : World} {k : IntKind} {v : Value} {l : List Nat} (h : At w k v l) (m : Nat) (hm : m ≤ l.length) : At w k (cutTo v m) (l.take m) := by
  have h' := h
  obtain ⟨p, cap, rfl, r⟩ := h'
  exact h.take m hm
theorem At.drewN {w : World} {k : IntKind} {v : Value} {l : List Nat} (h : At w k v l) (n : Nat) : At (w.drewN n) k v l := h

end Go.Proofs.YtnfohbpgnbfmeaaGreatDoor
/- whole.trim: what is left is the digits without the noughts at the end. -/
namespace Go.Proofs.YtnfohbpgnbfmeaaGreatDoor
open Go.RowKit Big

set_option maxHeartbeats 400000 in
theorem trim_val (v : Value) (l : List Nat) (w : World) (h : At w .u64 v l) :
    Calls Tryz.prog 46 #[v] w (fun e w' => e = .returned (cutTo v (strip l).length) ∧ w' = w) := by
  obtain ⟨p, cap, rfl, h1, h2, h3, h4⟩ := h
  unfold maxLen at h2
  go_enter Tryz.func46, Tryz.ntmps46
  go_wp2
  go_loop [0] (fun s => ∃ k : Nat, k ≤ l.length ∧ s = .slice p k cap ∧ strip (l.take k) = strip l) (fun s => lenOf s)
  case atStart => exact ⟨l.length, Nat.le_refl _, rfl, by rw [List.take_length]⟩
  case round =>
    obtain ⟨k, hk, rfl, hs⟩ := hrel
    have Hs := hid hs; clear hs
    by_cases hk0 : 0 < k
    · obtain ⟨b, off, rfl, hb, hc⟩ := h4 (by omega)
      have hck : w.cell? ⟨b, off + (k - 1), none⟩ = some (.int .u64 (l[k-1]'(by omega) : Nat)) := hc (k - 1) (by omega)
      clear hc h4
      go_wp2
      · go_round
        case rel =>
          have hz : ((l[k-1]'(by omega) : Nat) == 0) = true := by simpa using ‹((l[k-1]'(by omega) : Nat) == (0 : Int)) = true›
          refine ⟨k - 1, by omega, rfl, ?_⟩
          rw [← Hs.out, ← strip_take (k := k - 1) (by omega) (by simpa using hz), Nat.sub_add_cancel hk0]
        case measure => simp [lenOf]; omega
      · have hz : ¬ (l[k-1]'(by omega) : Nat) = 0 := by
          have := ‹((l[k-1]'(by omega) : Nat) == (0 : Int)) = false›
          simpa using this
        have hs := strip_take_ne (l := l) (k := k - 1) (by omega) hz
        rw [Nat.sub_add_cancel hk0, Hs.out] at hs
        go_ret
        exact ⟨by rw [hs, List.length_take, Nat.min_eq_left hk]; rfl, rfl⟩
    · obtain rfl : k = 0 := by omega
      have hs : Hid (strip l = []) := by rw [← Hs.out]; rfl
      go_wp2
      go_ret
      exact ⟨by rw [hs.out]; rfl, rfl⟩
theorem strip_is_take (l : List Nat) : strip l = l.take (strip l).length := by
  induction l with
  | nil => rfl
  | cons x l ih =>
    simp only [strip]
    cases h : strip l with
    | nil => by_cases hx : x = 0 <;> simp [hx]
    | cons y m =>
      rw [h] at ih
      simp only [List.length_cons] at ih ⊢
      rw [List.take_succ_cons, ← ih]
theorem At.strip {w : World} {k : IntKind} {v : Value} {l : List Nat} (h : At w k v l) : At w k (cutTo v (strip l).length) (strip l) := by
  have := h.cut (Big.strip l).length (strip_length l)
  rwa [← strip_is_take] at this
theorem trim_any (v : Value) (l : List Nat) (w : World) (h : At w .u64 v l) : Calls Tryz.prog 46 #[v] w (RSame .u64 (strip l) w) :=
  (trim_val v l w h).mono fun _ _ ⟨he, hw⟩ => ⟨_, he, by subst hw; exact h.strip, hw.symm⟩
end Go.Proofs.YtnfohbpgnbfmeaaGreatDoor
/- whole's small functions: told, ownWord, word, own. -/
namespace Go.Proofs.YtnfohbpgnbfmeaaGreatDoor
open Go.RowKit Big

set_option maxHeartbeats 400000 in
theorem told_any (neg : Bool) (s : Value) (n : Nat) (w : World) (h : At w .u64 s (dig W n)) :
    Calls Tryz.prog 72 #[.bool neg, s] w (RInt (sg neg n) w) := by
  have hat := hid h
  obtain ⟨p, cap, rfl, h1, h2, h3, h4⟩ := h
  unfold maxLen at h2
  clear h4
  by_cases h0 : (dig W n).length = 0
  · have hn : n = 0 := (dig_eq_nil W2).1 (List.eq_nil_of_length_eq_zero h0)
    have Hn := hid hn; clear hn
    go_enter Tryz.func72, Tryz.ntmps72
    go_wp2
    exact bodyPost_ret (v := .agg #[.bool false, .slice none 0 0]) (by simp [results, Tryz.results72, go_sem]) rfl ⟨_, rfl, by rw [Hn.out, sg_zero]; exact IntAt.zero _, below1 _ _⟩
  · have hn : n ≠ 0 := fun e => h0 (by rw [e]; rfl)
    have Hn := hid hn; clear hn
    go_enter Tryz.func72, Tryz.ntmps72
    go_wp2
    exact bodyPost_ret (v := .agg #[.bool neg, .slice p (dig W n).length cap]) (by simp [results, Tryz.results72, go_sem]) rfl ⟨_, rfl, IntAt.mk Hn.out (hat.out.below (below1 _ _)), below1 _ _⟩

set_option maxHeartbeats 400000 in
theorem ownWord_any (x : Nat) (w : World) (hx : x < W) :
    Calls Tryz.prog 77 #[.int .u64 x] w (RAt .u64 (dig W x) w) := by
  by_cases h0 : x = 0
  · subst h0
    go_enter Tryz.func77, Tryz.ntmps77
    go_wp2
    go_ret
    exact ⟨_, rfl, At.nil _ _, Below.refl _ _⟩
  · have Hd := hid (dig_one W2 (by omega) hx)
    go_enter Tryz.func77, Tryz.ntmps77
    go_wp2
    go_ret
    exact ⟨_, rfl, by rw [Hd.out]; exact At.one _ _ _ _, below1 _ _⟩

set_option maxHeartbeats 400000 in
theorem word_any (v : Value) (l : List Nat) (w : World) (h : At w .u64 v l) :
    Calls Tryz.prog 96 #[v] w fun e w' => e = .returned (.int .u64 (l.headD 0 : Nat)) ∧ w = w' := by
  obtain ⟨p, cap, rfl, h1, h2, h3, h4⟩ := h
  unfold maxLen at h2
  cases l with
  | nil =>
    go_enter Tryz.func96, Tryz.ntmps96
    go_wp2
    go_ret
    exact ⟨rfl, rfl⟩
  | cons x l =>
    obtain ⟨b, off, rfl, hb, hc⟩ := h4 (by simp)
    have hck : w.cell? ⟨b, off, none⟩ = some (.int .u64 x) := hc 0 (by simp)
    clear hc h4
    have hl : (l.length + 1 == 0) = false := by simp
    have hl2 : 0 < l.length + 1 := by omega
    rw [List.length_cons] at *
    go_enter Tryz.func96, Tryz.ntmps96
    go_wp2
    go_ret
    exact ⟨rfl, rfl⟩

end Go.Proofs.YtnfohbpgnbfmeaaGreatDoor
/- Slices of numbers that a call has made itself: what append and make do with them. -/
namespace Go.Proofs.YtnfohbpgnbfmeaaGreatDoor
open Go.RowKit Big

/-- t is the type of slices of e, the integers of kind k, of so many bytes -/
structure Elem (P : Program) (t e : TypeId) (k : IntKind) (size : Nat) : Prop where
  und : P.underlying t = some (.slice e)
  row : ∃ i, P.info? e = some i ∧ i.zero = some (.int k 0) ∧ i.size = 1 ∧ i.bytes = size
def ints (k : IntKind) (l : List Nat) : List Value := l.map fun x => Value.int k (x : Nat)
/-- v holds the numbers l in a row of the call's own, from block base on -/
def Own (w : World) (base : Nat) (e : TypeId) (k : IntKind) (v : Value) (l : List Nat) : Prop := w.ownsRow base e 1 v l.length (ints k l)

theorem ints_length (k : IntKind) (l : List Nat) : (ints k l).length = l.length := by simp [ints]
theorem ints_append (k : IntKind) (l m : List Nat) : ints k (l ++ m) = ints k l ++ ints k m := by simp [ints]
theorem Own.nil (w : World) (base : Nat) (e : TypeId) (k : IntKind) : Own w base e k (.slice none 0 0) [] := World.ownsRow_nil w base e 1
theorem Own.at {w : World} {base : Nat} {e : TypeId} {k : IntKind} {v : Value} {l : List Nat} (h : Own w base e k v l) : At w k v l := by
  have h' := h
  unfold Own at h'
  rcases h'.2 with ⟨rfl, h0⟩ | ⟨g, cap, cur, rfl, _, hg, hn, hm, _, _⟩
  · obtain rfl := List.eq_nil_of_length_eq_zero h0
    exact At.nil w k
  · refine ⟨_, cap, rfl, hn, hm, fun h => (by cases h), fun _ => ⟨g, 0, rfl, (Array.getElem?_eq_some_iff.1 hg).1, fun i hi => ?_⟩⟩
    have := World.ownsRow.cellAt h' i (by omega)
    rw [Nat.zero_add, this]
    simp [ints, hi]
theorem Own.kept {w w' : World} {base : Nat} {e : TypeId} {k : IntKind} {v : Value} {l : List Nat} (h : Own w base e k v l) (hb : Below w.heap.size w w') : Own w' base e k v l := by
  refine ⟨h.1, ?_⟩
  rcases h.2 with hn | ⟨g, cap, cur, rfl, h1, hg, r⟩
  · exact Or.inl hn
  · exact Or.inr ⟨g, cap, cur, rfl, h1, by rw [hb.block g (Array.getElem?_eq_some_iff.1 hg).1]; exact hg, r⟩
theorem Own.alloc {w : World} {base : Nat} {e : TypeId} {k : IntKind} {v : Value} {l : List Nat} (h : Own w base e k v l) (o : Obj) : Own (w.alloc o) base e k v l := h.kept (below1 w o)
theorem Own.mono {w : World} {base base' : Nat} {e : TypeId} {k : IntKind} {v : Value} {l : List Nat} (h : Own w base e k v l) (hb : base' ≤ base) : Own w base' e k v l := by
  refine ⟨h.1, ?_⟩
  rcases h.2 with hn | ⟨g, cap, cur, rfl, h1, r⟩
  · exact Or.inl hn
  · exact Or.inr ⟨g, cap, cur, rfl, Nat.le_trans hb h1, r⟩
/-- a row that is written is one of the call's own -/
theorem Own.row {w : World} {base : Nat} {e : TypeId} {k : IntKind} {v : Value} {l : List Nat} (h : Own w base e k v l) : ∀ g, v.ownBlock = some g → base ≤ g := fun g hg => (World.ownsRow.lt h g hg).1
/-- a cut at the end -/
theorem Own.take {w : World} {base : Nat} {e : TypeId} {k : IntKind} {p : Option Addr} {n cap : Nat} {l : List Nat} (h : Own w base e k (.slice p n cap) l) (m : Nat) (hm : m ≤ l.length) : Own w base e k (.slice p m cap) (l.take m) := by
  have hl : (l.take m).length = m := by simp [Nat.min_eq_left hm]
  unfold Own at h ⊢
  rw [hl]
  refine ⟨by simp [ints_length, hl], ?_⟩
  rcases h.2 with ⟨h1, h2⟩ | ⟨g, c, cur, h1, h2, h3, h4, h5, h6, h7⟩
  · cases h1; exact Or.inl ⟨by rw [show m = 0 by omega], by omega⟩
  · cases h1
    refine Or.inr ⟨g, cap, cur, rfl, h2, h3, by omega, h5, h6, ?_⟩
    have : (ints k l).take m = ints k (l.take m) := by simp [ints, List.map_take]
    rw [← this, ← h7, List.take_take]
    congr 1; omega

/-- what a call answers: a slice of numbers l in memory of its own -/
def ROwn (e : TypeId) (k : IntKind) (l : List Nat) (w : World) (en : Ending) (w' : World) : Prop := ∃ v', en = .returned v' ∧ Own w' w.heap.size e k v' l ∧ Below w.heap.size w w'
theorem elemNat : Elem Tryz.prog 33 84 .u64 8 := ⟨Tryz.underlying33, info_parts (by kernel_rfl)⟩
theorem elemInts : Elem Tryz.prog 99 3 .i64 8 := ⟨Tryz.underlying99, info_parts (by kernel_rfl)⟩
theorem elemHalves : Elem Tryz.prog 139 157 .u32 4 := ⟨Tryz.underlying139, info_parts (by kernel_rfl)⟩

section
variable {P : Program} {w : World} {ops : Array Oper} {rest : List Oper} {o : Oper} {a : Act} {Q : Exit → Act → World → Prop}

/-- 'append(v, x...)': v the call's own, x whatever slice of numbers -/
theorem wpList_append_at (hgd : o.guard = none) (s x : Operand) (t : TypeId)
    (ho : o.op = .call { callee := .builtin .append, args := #[s, x], argTypes := #[t, t] })
    {e : TypeId} {k : IntKind} {size : Nat} (E : Elem P t e k size) (base : Nat) (v : Value) (l : List Nat) (hs : a.eval s = v) (hown : Own w base e k v l)
    (vx : Value) (m : List Nat) (hx : a.eval x = vx) (hat : At w k vx m)
    (hlen : l.length + m.length ≤ maxLen) (hbytes : (l.length + m.length) * size ≤ 140737488355328) (hbase : base ≤ w.heap.size)
    (h : ∀ v' w', Own w' base e k v' (l ++ m) → Below base w w' → w.heap.size ≤ w'.heap.size → wpList P ops Q rest (a.put o.dst v') w') : wpList P ops Q (o :: rest) a w := by
  obtain ⟨i, hi, hz, hsz, hby⟩ := E.row
  obtain ⟨p, cap, rfl, h1, h2, h3, h4⟩ := hat
  cases p with
  | none =>
    obtain rfl := h3 rfl
    obtain rfl : m = [] := List.eq_nil_of_length_eq_zero (by omega)
    exact wpList_append_own_none hgd s x t ho base e i 1 E.und hi v l.length (ints k l) hs hown hx (h _ _ (by rw [List.append_nil]; exact hown) (Below.refl _ _) (Nat.le_refl _))
  | some ad =>
    refine wpList_append_own w hgd s x t ho base e i (.int k 0) 1 size E.und hi hz hsz hby rfl (by decide) v l.length (ints k l) hs hown ad m.length cap (ints k m) hx (by simp [ints_length]) ?_ ?_ hlen hbytes hbase ?_
    · intro j u hj
      by_cases hjm : j < m.length
      · obtain ⟨b, off, he, hb, hc⟩ := h4 (by omega)
        cases he
        rw [Go.WideShapes.add_plain, hc j hjm]
        simpa [ints, hjm] using hj
      · rw [List.getElem?_eq_none (by rw [ints_length]; omega)] at hj; cases hj
    · intro u hu
      obtain ⟨n, _, rfl⟩ := List.mem_map.1 hu
      rfl
    · intro v' w' h5 h6 _
      refine h v' w' ?_ ((Below.refl _ _).grown h6 hbase hown.row) h6.size
      unfold Own
      rw [List.length_append, ints_append]; exact h5

/-- 'make([]T, 0, n)' -/
theorem wpList_make_at (hg : o.guard = none) (l c : Operand) (t : TypeId) (hop : o.op = Op.makeSlice t l c)
    {e : TypeId} {k : IntKind} {size : Nat} (E : Elem P t e k size) (base : Nat)
    (kl kc : IntKind) (C : Int) (n : Nat) (hl : a.eval l = .int kl 0) (hc : a.eval c = .int kc C) (hC : C = (n : Int)) (b2 : size * n ≤ 281474976710656) (b3 : n ≤ maxLen) (b4 : base ≤ w.heap.size)
    (hK : ∀ v w', Own w' base e k v [] → Below base w w' → w.heap.size ≤ w'.heap.size → v = (.slice (some ⟨w.heap.size, 0, none⟩) 0 n) → wpList P ops Q rest (a.put o.dst v) w') :
    wpList P ops Q (o :: rest) a w := by
  obtain ⟨i, hi, hz, hsz, hby⟩ := E.row
  subst hby
  exact wpList_make_own w hg l c t hop base e i (.int k 0) 1 E.und hi hz hsz kl kc C n hl hc hC b2 b3 b4 fun w' h1 h2 => hK _ w' h1 ((Below.refl _ _).grown h2 b4 (fun _ h => by cases h)) h2.size rfl

/-- 'make([]T, n)' -/
theorem wpList_full_at (hg : o.guard = none) (l c : Operand) (t : TypeId) (hop : o.op = Op.makeSlice t l c)
    {e : TypeId} {k : IntKind} {size : Nat} (E : Elem P t e k size) (base : Nat)
    (kl kc : IntKind) (L C : Int) (n : Nat) (hl : a.eval l = .int kl L) (hc : a.eval c = .int kc C) (hL : L = (n : Int)) (hC : C = (n : Int)) (b2 : size * n ≤ 281474976710656) (b3 : n ≤ maxLen) (b4 : base ≤ w.heap.size)
    (hK : ∀ v w', Own w' base e k v (List.replicate n 0) → Below base w w' → w.heap.size ≤ w'.heap.size → v = (.slice (some ⟨w.heap.size, 0, none⟩) n n) → wpList P ops Q rest (a.put o.dst v) w') :
    wpList P ops Q (o :: rest) a w := by
  obtain ⟨i, hi, hz, hsz, hby⟩ := E.row
  subst hby
  refine wpList_make_full w hg l c t hop base e i (.int k 0) 1 E.und hi hz hsz kl kc L C n hl hc hL hC b2 b3 b4 fun w' h1 h2 => hK _ w' ?_ ((Below.refl _ _).grown h2 b4 (fun _ h => by cases h)) h2.size rfl
  unfold Own
  rw [List.length_replicate]
  have e1 : (madeCells (Value.int k 0).cells (n * 1)).toList = ints k (List.replicate n 0) := by
    rw [Nat.mul_one]
    show (madeCells #[Value.int k 0] n).toList = _
    rw [toList_madeCells_one]
    simp [ints]
  rw [← e1]; exact h1
end

end Go.Proofs.YtnfohbpgnbfmeaaGreatDoor
/- whole.own, whole.plus: sums of words with carries. -/
namespace Go.Proofs.YtnfohbpgnbfmeaaGreatDoor
open Go.RowKit Big

set_option maxHeartbeats 400000 in
theorem own_any (v : Value) (l : List Nat) (w : World) (h : At w .u64 v l) (hl : l.length ≤ 1099511627776) :
    Calls Tryz.prog 73 #[v] w (ROwn 84 .u64 (strip l) w) := by
  have hs := strip_length l
  go_enter Tryz.func73, Tryz.ntmps73
  go_wp2_with (first
    | (go_at_call 46; refine (trim_any _ l _ h).mono ?_; rintro e w' ⟨v', rfl, hv', rfl⟩)
    | (at_builtin; refine wpList_append_at rfl _ _ 33 rfl elemNat w.heap.size _ [] rfl (Own.nil _ _ _ _) _ (strip l) rfl hv' (by simp [maxLen]; omega) (by simp; omega) (Nat.le_refl _) ?_; intro v2 w2 ho hb _))
  go_ret
  exact ⟨_, rfl, by simpa using ho, hb⟩

/-- math/bits.Add64, its sum and carry under names -/
theorem add64 (x y c : Nat) (hc : c ≤ 1) : ∃ s c', x + y + c = s + W * c' ∧ s < W ∧ (x < W → y < W → c' ≤ 1) ∧
    ∀ w, (callFunc 100 #[.int .u64 (x : Nat), .int .u64 (y : Nat), .int .u64 (c : Nat)]).run Tryz.prog w = .ok (.value (.tuple #[.int .u64 (s : Nat), .int .u64 (c' : Nat)])) w := by
  refine ⟨(x + y + c) % W, (x + y + c) / W, (Nat.mod_add_div _ _).symm, Nat.mod_lt _ (by decide), ?_, fun w => ?_⟩
  · intro h1 h2
    have : (x + y + c) / W < 2 := (Nat.div_lt_iff_lt_mul (by decide)).2 (by omega)
    omega
  · rw [run_callFunc_extern Tryz.func100 (by kernel_rfl) (by kernel_rfl) (by kernel_rfl) (e := add64Entry) (by kernel_rfl), run_add64 x y c (by omega) (by omega) (by omega) (by omega)]
    simp only [Result.andThen, W]
    congr 5 <;> omega
/-- math/bits.Sub64, likewise -/
theorem sub64 (x y b : Nat) (hx : x < W) (hy : y < W) (hb : b ≤ 1) : ∃ s b', x + W * b' = s + y + b ∧ s < W ∧ b' ≤ 1 ∧
    ∀ w, (callFunc 103 #[.int .u64 (x : Nat), .int .u64 (y : Nat), .int .u64 (b : Nat)]).run Tryz.prog w = .ok (.value (.tuple #[.int .u64 (s : Nat), .int .u64 (b' : Nat)])) w := by
  unfold W at *
  refine ⟨(x + 18446744073709551616 - y - b) % 18446744073709551616, if x < y + b then 1 else 0, ?_, Nat.mod_lt _ (by decide), ?_, fun w => ?_⟩
  · split <;> omega
  · split <;> omega
  · rw [run_callFunc_extern Tryz.func103 (by kernel_rfl) (by kernel_rfl) (by kernel_rfl) (e := sub64Entry) (by kernel_rfl), run_sub64 x y b hb]
    rfl

def RPlus (l0 l1 : List Nat) (w : World) (e : Ending) (w' : World) : Prop := ∃ l c, Small W l ∧ l.length = l0.length ∧ c ≤ 1 ∧ val W l + c * W ^ l0.length = val W l0 + val W l1 ∧
      ROwn 84 .u64 (if c = 0 then l else l ++ [c]) w e w'
theorem plus_step {l l0 l1 : List Nat} {k x y c s c2 : Nat} {hk : k < l0.length} (hl : l.length = k) (hx : x = l0[k]) (hy : y = l1[k]?.getD 0) (hs : x + y + c = s + W * c2)
    (hv : val W l + c * W ^ k = val W (l0.take k) + val W (l1.take k)) : val W (l ++ [s]) + c2 * W ^ (k + 1) = val W (l0.take (k + 1)) + val W (l1.take (k + 1)) := by
  rw [val_snoc, val_take_succ W l0 k hk, val_take_getD, hl, ← hx, ← hy, Nat.pow_succ]
  exact add_step hs hv

set_option maxRecDepth 100000 in
set_option maxHeartbeats 800000 in
theorem plus_at (sw : Bool) (v0 v1 : Value) (l0 l1 : List Nat) (w : World) (h0 : At w .u64 v0 l0) (h1 : At w .u64 v1 l1) (s0 : Small W l0) (s1 : Small W l1)
    (hl : if sw then l1.length < l0.length else l1.length ≤ l0.length) (hlen : l0.length ≤ 1099511627776) :
    Calls Tryz.prog 82 (if sw then #[v1, v0] else #[v0, v1]) w (RPlus l0 l1 w) := by
  obtain ⟨p0, c0, rfl, a1, a2, a3, a4⟩ := h0
  obtain ⟨p1, c1, rfl, b1, b2, b3, b4⟩ := h1
  cases sw
  all_goals
    first | simp only [if_true] at hl ⊢ | simp only [if_false, Bool.false_eq_true] at hl ⊢
    go_enter Tryz.func82, Tryz.ntmps82
    unfold maxLen at a2 b2
    go_wp2_with (first
      | (at_make; refine wpList_make_at rfl _ _ 33 rfl elemNat w.heap.size _ _ _ (l0.length + 1) rfl rfl (by simp) (by omega) (by simp [maxLen]; omega) (Nat.le_refl _) ?_; intro vo w1 ho hb1 hs1 hvo; clear hvo))
    go_loopw [5, 6, 23] (fun o c i wr => ∃ (k : Nat) (l : List Nat) (c' : Nat), k ≤ l0.length ∧ i = .int .i64 (k : Nat) ∧ c = .int .u64 (c' : Nat) ∧ c' ≤ 1 ∧ Own wr w.heap.size 84 .u64 o l ∧ l.length = k ∧ Small W l ∧
        Hid (val W l + c' * W ^ k = val W (l0.take k) + val W (l1.take k)) ∧ Below w.heap.size w wr) (fun _ _ i _ => l0.length - (intOf i).toNat)
    case atStart => exact ⟨0, [], 0, Nat.zero_le _, rfl, rfl, by omega, ho, rfl, small_nil _, by simp [Hid, val], hb1⟩
    case round =>
      obtain ⟨k, l, c', hk, rfl, rfl, hc', hown, hlk, hsl, hv, hbel⟩ := hrel
      have Hlk := hid hlk; clear hlk
      by_cases hkl : k < l0.length
      · obtain ⟨b, off, rfl, hbb, hcell⟩ := a4 (by omega)
        have e0 : wr.cell? ⟨b, off + k, none⟩ = some (.int .u64 (l0[k] : Nat)) := (hbel.cell (p := ⟨b, off + k, none⟩) hbb).trans (hcell k hkl)
        have x0 := small_get s0 k hkl
        obtain ⟨x, hx⟩ : ∃ x, x = l0[k] := ⟨_, rfl⟩
        rw [← hx] at e0 x0
        have Hx := hid hx; clear hx hcell a4
        by_cases hk1 : k < l1.length
        · obtain ⟨b', off', rfl, hbb', hcell'⟩ := b4 (by omega)
          have e1 : wr.cell? ⟨b', off' + k, none⟩ = some (.int .u64 (l1[k] : Nat)) := (hbel.cell (p := ⟨b', off' + k, none⟩) hbb').trans (hcell' k hk1)
          have y0 := small_get s1 k hk1
          obtain ⟨y, hy⟩ : ∃ y, y = l1[k] := ⟨_, rfl⟩
          rw [← hy] at e1 y0
          have Hy : Hid (y = l1[k]?.getD 0) := by unfold Hid; simpa [hk1] using hy
          clear hy hcell' b4
          obtain ⟨s, c2, hs, hsW, hc2, hadd⟩ := add64 x y c' hc'
          have hc2 := hc2 x0 y0
          have Hs := hid hs; clear hs
          go_wp2_with (first
            | (at_builtin; refine wpList_append_at rfl _ _ 33 rfl elemNat w.heap.size _ l rfl (hown.alloc _) _ [s] rfl (At.one _ _ _ _) (by rw [Hlk.out]; simp [maxLen]; omega) (by rw [Hlk.out]; simp; omega) (by have := hbel.size; simp; omega) ?_; intro v2 w2 ho2 hb2 hs2))
          go_roundw
          case rel => exact ⟨k + 1, l ++ [s], c2, by omega, by go_num, rfl, hc2, ho2, by simp [Hlk.out], small_snoc hsl hsW,
              plus_step Hlk.out Hx.out Hy.out Hs.out hv.out, (hbel.trans ((below1 _ _).mono hbel.size)).trans hb2⟩
          case measure => simp [intOf]; omega
        · obtain ⟨y, hy⟩ : ∃ y, y = 0 := ⟨_, rfl⟩
          have y0 : y < W := by rw [hy]; decide
          have Hy : Hid (y = l1[k]?.getD 0) := by unfold Hid; simpa [hk1] using hy
          obtain ⟨s, c2, hs, hsW, hc2, hadd⟩ := add64 x y c' hc'
          have hc2 := hc2 x0 y0
          have Hs := hid hs; clear hs
          rw [hy] at hadd; simp only [Int.natCast_zero] at hadd; clear hy
          go_wp2_with (first
            | (at_builtin; refine wpList_append_at rfl _ _ 33 rfl elemNat w.heap.size _ l rfl (hown.alloc _) _ [s] rfl (At.one _ _ _ _) (by rw [Hlk.out]; simp [maxLen]; omega) (by rw [Hlk.out]; simp; omega) (by have := hbel.size; simp; omega) ?_; intro v2 w2 ho2 hb2 hs2))
          go_roundw
          case rel => exact ⟨k + 1, l ++ [s], c2, by omega, by go_num, rfl, hc2, ho2, by simp [Hlk.out], small_snoc hsl hsW,
              plus_step Hlk.out Hx.out Hy.out Hs.out hv.out, (hbel.trans ((below1 _ _).mono hbel.size)).trans hb2⟩
          case measure => simp [intOf]; omega
      · obtain rfl : k = l0.length := by omega
        have hv' : val W l + c' * W ^ l0.length = val W l0 + val W l1 := by
          have := hv.out
          rwa [List.take_length, val_take_ge W l1 _ (by omega)] at this
        have Hv := hid hv'; clear hv hv' a4 b4
        by_cases hc0 : c' = 0
        · subst hc0
          go_wp2
          go_ret
          exact ⟨l, 0, hsl, Hlk.out, by omega, Hv.out, _, rfl, by simpa using hown, hbel⟩
        · obtain rfl : c' = 1 := by omega
          go_wp2_with (first
            | (at_builtin; refine wpList_append_at rfl _ _ 33 rfl elemNat w.heap.size _ l rfl (hown.alloc _) _ [1] rfl (At.one _ _ _ _) (by rw [Hlk.out]; simp [maxLen]; omega) (by rw [Hlk.out]; simp; omega) (by have := hbel.size; simp; omega) ?_; intro v2 w2 ho2 hb2 hs2))
          go_ret
          exact ⟨l, 1, hsl, Hlk.out, by omega, Hv.out, _, rfl, by simpa using ho2, (hbel.trans ((below1 _ _).mono hbel.size)).trans hb2⟩

/-- whole.plus of two numbers' digits: the sum's digits -/
theorem plus_any (va vb : Value) (n m : Nat) (w : World) (h0 : At w .u64 va (dig W n)) (h1 : At w .u64 vb (dig W m)) (hn : sz W n ≤ 1099511627776) (hm : sz W m ≤ 1099511627776) :
    Calls Tryz.prog 82 #[va, vb] w (ROwn 84 .u64 (dig W (n + m)) w) := by
  have key : ∀ l0 l1 : Nat, sz W l1 ≤ sz W l0 → ∀ e w', RPlus (dig W l0) (dig W l1) w e w' → ROwn 84 .u64 (dig W (l0 + l1)) w e w' := by
    rintro n m hnm e w' ⟨l, c, hs, hl, hc, hv, hr⟩
    rw [val_dig W2, val_dig W2] at hv
    have : (if c = 0 then l else l ++ [c]) = dig W (n + m) := by
      by_cases hc0 : c = 0
      · subst hc0
        rw [if_pos rfl]
        refine canon_val W2 hs (by omega) ?_
        by_cases h0 : n = 0
        · left; subst h0; exact List.eq_nil_of_length_eq_zero hl
        · right; rw [hl]; exact Nat.le_trans (pow_sz_le W2 (by omega)) (by omega)
      · obtain rfl : c = 1 := by omega
        rw [if_neg hc0]
        refine canon_val W2 (small_snoc hs (by decide)) (by rw [val_snoc, hl]; omega) (Or.inr ?_)
        simp only [List.length_append, List.length_singleton, Nat.add_sub_cancel, hl]
        omega
    rw [← this]; exact hr
  by_cases hlt : (dig W n).length < (dig W m).length
  · have := plus_at true vb va (dig W m) (dig W n) w h1 h0 (small_dig W2 _) (small_dig W2 _) (by simpa using hlt) hm
    refine this.mono fun e w' h => ?_
    rw [Nat.add_comm]
    exact key m n (Nat.le_of_lt hlt) e w' h
  · have := plus_at false va vb (dig W n) (dig W m) w h0 h1 (small_dig W2 _) (small_dig W2 _) (by simpa using hlt) hn
    exact this.mono fun e w' h => key n m (by unfold sz; omega) e w' h
end Go.Proofs.YtnfohbpgnbfmeaaGreatDoor
/- whole.minus: differences of words with borrows. -/
namespace Go.Proofs.YtnfohbpgnbfmeaaGreatDoor
open Go.RowKit Big

theorem minus_step {l l0 l1 : List Nat} {k x y c s c2 : Nat} {hk : k < l0.length} (hl : l.length = k) (hx : x = l0[k]) (hy : y = l1[k]?.getD 0) (hs : x + W * c2 = s + y + c)
    (hv : val W l + val W (l1.take k) = val W (l0.take k) + c * W ^ k) : val W (l ++ [s]) + val W (l1.take (k + 1)) = val W (l0.take (k + 1)) + c2 * W ^ (k + 1) := by
  rw [val_snoc, val_take_succ W l0 k hk, val_take_getD, hl, ← hx, ← hy, Nat.pow_succ]
  exact sub_step hs hv

set_option maxRecDepth 100000 in
set_option maxHeartbeats 800000 in
/-- whole.minus of two numbers' digits, the second no greater: the difference's digits -/
theorem minus_any (v0 v1 : Value) (n m : Nat) (w : World) (h0 : At w .u64 v0 (dig W n)) (h1 : At w .u64 v1 (dig W m)) (hmn : m ≤ n) (hlen : sz W n ≤ 1099511627776) :
    Calls Tryz.prog 84 #[v0, v1] w (RAt .u64 (dig W (n - m)) w) := by
  have s0 := small_dig W2 n
  have s1 := small_dig W2 m
  have hl : (dig W m).length ≤ (dig W n).length := sz_mono W2 hmn
  have hvv : val W (dig W m) ≤ val W (dig W n) ∧ val W (dig W n) - val W (dig W m) = n - m := by rw [val_dig W2, val_dig W2]; exact ⟨hmn, rfl⟩
  unfold sz at hlen
  have Hvv := hid hvv; clear hvv hmn
  obtain ⟨r, hr⟩ : ∃ r, r = dig W (n - m) := ⟨_, rfl⟩
  rw [← hr]
  have Hr := hid hr; clear hr
  generalize dig W n = l0 at *
  generalize dig W m = l1 at *
  obtain ⟨p0, c0, rfl, a1, a2, a3, a4⟩ := h0
  obtain ⟨p1, c1, rfl, b1, b2, b3, b4⟩ := h1
  unfold maxLen at a2 b2
  go_enter Tryz.func84, Tryz.ntmps84
  go_wp2_with (first
    | (at_make; refine wpList_make_at rfl _ _ 33 rfl elemNat w.heap.size _ _ _ l0.length rfl rfl (by simp) (by omega) (by simp [maxLen]; omega) (Nat.le_refl _) ?_; intro vo w1 ho hb1 hs1 hvo; clear hvo))
  go_loopw [5, 6, 15] (fun o c i wr => ∃ (k : Nat) (l : List Nat) (c' : Nat), k ≤ l0.length ∧ i = .int .i64 (k : Nat) ∧ c = .int .u64 (c' : Nat) ∧ c' ≤ 1 ∧ Own wr w.heap.size 84 .u64 o l ∧ l.length = k ∧ Small W l ∧
      Hid (val W l + val W (l1.take k) = val W (l0.take k) + c' * W ^ k) ∧ Below w.heap.size w wr) (fun _ _ i _ => l0.length - (intOf i).toNat)
  case atStart => exact ⟨0, [], 0, Nat.zero_le _, rfl, rfl, by omega, ho, rfl, small_nil _, by simp [Hid, val], hb1⟩
  case round =>
    obtain ⟨k, l, c', hk, rfl, rfl, hc', hown, hlk, hsl, hv, hbel⟩ := hrel
    have Hlk := hid hlk; clear hlk
    by_cases hkl : k < l0.length
    · obtain ⟨b, off, rfl, hbb, hcell⟩ := a4 (by omega)
      have e0 : wr.cell? ⟨b, off + k, none⟩ = some (.int .u64 (l0[k] : Nat)) := (hbel.cell (p := ⟨b, off + k, none⟩) hbb).trans (hcell k hkl)
      have x0 := small_get s0 k hkl
      obtain ⟨x, hx⟩ : ∃ x, x = l0[k] := ⟨_, rfl⟩
      rw [← hx] at e0 x0
      have Hx := hid hx; clear hx hcell a4
      by_cases hk1 : k < l1.length
      · obtain ⟨b', off', rfl, hbb', hcell'⟩ := b4 (by omega)
        have e1 : wr.cell? ⟨b', off' + k, none⟩ = some (.int .u64 (l1[k] : Nat)) := (hbel.cell (p := ⟨b', off' + k, none⟩) hbb').trans (hcell' k hk1)
        have y0 := small_get s1 k hk1
        obtain ⟨y, hy⟩ : ∃ y, y = l1[k] := ⟨_, rfl⟩
        rw [← hy] at e1 y0
        have Hy : Hid (y = l1[k]?.getD 0) := by unfold Hid; simpa [hk1] using hy
        clear hy hcell' b4
        obtain ⟨s, c2, hs, hsW, hc2, hadd⟩ := sub64 x y c' x0 y0 hc'
        have Hs := hid hs; clear hs
        go_wp2_with (first
          | (at_builtin; refine wpList_append_at rfl _ _ 33 rfl elemNat w.heap.size _ l rfl (hown.alloc _) _ [s] rfl (At.one _ _ _ _) (by rw [Hlk.out]; simp [maxLen]; omega) (by rw [Hlk.out]; simp; omega) (by have := hbel.size; simp; omega) ?_; intro v2 w2 ho2 hb2 hs2))
        go_roundw
        case rel => exact ⟨k + 1, l ++ [s], c2, by omega, by go_num, rfl, hc2, ho2, by simp [Hlk.out], small_snoc hsl hsW,
            minus_step Hlk.out Hx.out Hy.out Hs.out hv.out, (hbel.trans ((below1 _ _).mono hbel.size)).trans hb2⟩
        case measure => simp [intOf]; omega
      · obtain ⟨y, hy⟩ : ∃ y, y = 0 := ⟨_, rfl⟩
        have y0 : y < W := by rw [hy]; decide
        have Hy : Hid (y = l1[k]?.getD 0) := by unfold Hid; simpa [hk1] using hy
        obtain ⟨s, c2, hs, hsW, hc2, hadd⟩ := sub64 x y c' x0 y0 hc'
        have Hs := hid hs; clear hs
        rw [hy] at hadd; simp only [Int.natCast_zero] at hadd; clear hy
        go_wp2_with (first
          | (at_builtin; refine wpList_append_at rfl _ _ 33 rfl elemNat w.heap.size _ l rfl (hown.alloc _) _ [s] rfl (At.one _ _ _ _) (by rw [Hlk.out]; simp [maxLen]; omega) (by rw [Hlk.out]; simp; omega) (by have := hbel.size; simp; omega) ?_; intro v2 w2 ho2 hb2 hs2))
        go_roundw
        case rel => exact ⟨k + 1, l ++ [s], c2, by omega, by go_num, rfl, hc2, ho2, by simp [Hlk.out], small_snoc hsl hsW,
            minus_step Hlk.out Hx.out Hy.out Hs.out hv.out, (hbel.trans ((below1 _ _).mono hbel.size)).trans hb2⟩
        case measure => simp [intOf]; omega
    · obtain rfl : k = l0.length := by omega
      have hv' : val W l + val W l1 = val W l0 + c' * W ^ l0.length := by
        have := hv.out
        rwa [List.take_length, val_take_ge W l1 _ (by omega)] at this
      have hlt := val_lt (by decide : 0 < W) hsl
      have e : strip l = r := by
        rw [strip_dig W2 hsl, Hr.out, ← Hvv.out.2]
        have := Hvv.out.1
        rw [Hlk.out] at hlt
        have : c' = 0 := by
          rcases (by omega : c' = 0 ∨ c' = 1) with h | h
          · exact h
          · subst h; omega
        subst this
        congr 1; omega
      have He := hid e; clear hv hv' e hlt a4 b4
      go_wp2_with (first
        | (go_at_call 46; refine (trim_any _ l _ hown.at).mono ?_; rintro e w' ⟨v', rfl, hv', rfl⟩))
      go_ret
      exact ⟨_, rfl, by rw [← He.out]; exact hv', hbel⟩
end Go.Proofs.YtnfohbpgnbfmeaaGreatDoor
/- whole.compare: the order of sizes. -/
namespace Go.Proofs.YtnfohbpgnbfmeaaGreatDoor
open Go.RowKit Big

def ord (a b : Int) : Int := if a < b then -1 else if b < a then 1 else 0
theorem ord_lt {a b : Int} (h : a < b) : ord a b = -1 := by simp [ord, h]
theorem ord_gt {a b : Int} (h : b < a) : ord a b = 1 := by simp [ord, h]; omega
theorem ord_eq (a : Int) : ord a a = 0 := by simp [ord]

theorem cmpInt_any (a b : Int) (w : World) :
    Calls Tryz.prog 101 #[.int .i64 a, .int .i64 b] w fun e w' => e = .returned (.int .i64 (ord a b)) ∧ w' = w := by
  rcases Int.lt_trichotomy a b with h | h | h
  · rw [ord_lt h]
    go_enter Tryz.func101, Tryz.ntmps101
    go_wp2
    go_ret
    exact ⟨rfl, rfl⟩
  · subst h
    rw [ord_eq]
    go_enter Tryz.func101, Tryz.ntmps101
    go_wp2
    go_ret
    exact ⟨rfl, rfl⟩
  · have h' : ¬ a < b := by omega
    rw [ord_gt h]
    go_enter Tryz.func101, Tryz.ntmps101
    go_wp2
    go_ret
    exact ⟨rfl, rfl⟩
theorem cmpWord_any (a b : Int) (w : World) :
    Calls Tryz.prog 102 #[.int .u64 a, .int .u64 b] w fun e w' => e = .returned (.int .i64 (ord a b)) ∧ w' = w := by
  rcases Int.lt_trichotomy a b with h | h | h
  · rw [ord_lt h]
    go_enter Tryz.func102, Tryz.ntmps102
    go_wp2
    go_ret
    exact ⟨rfl, rfl⟩
  · subst h
    rw [ord_eq]
    go_enter Tryz.func102, Tryz.ntmps102
    go_wp2
    go_ret
    exact ⟨rfl, rfl⟩
  · have h' : ¬ a < b := by omega
    rw [ord_gt h]
    go_enter Tryz.func102, Tryz.ntmps102
    go_wp2
    go_ret
    exact ⟨rfl, rfl⟩

theorem drawn_more {w wr : World} {n : Nat} (h : ∃ j, wr = w.drewN j) : ∃ j, wr.drewN n = w.drewN j := by
  obtain ⟨j, rfl⟩ := h
  exact ⟨j + n, by rw [World.drewN_drewN]⟩
def ROrd (z : Int) (w : World) (e : Ending) (w' : World) : Prop := e = .returned (.int .i64 z) ∧ ∃ k, w' = w.drewN k

/-- the order, seen at the highest digits that part -/
theorem ord_part {l0 l1 : List Nat} {n m : Nat} (s0 : Small W l0) (s1 : Small W l1) (h0 : val W l0 = n) (h1 : val W l1 = m) {k : Nat} (hk0 : k < l0.length) (hk1 : k < l1.length)
    (hd : l0.drop (k + 1) = l1.drop (k + 1)) (hne : l0[k] ≠ l1[k]) : ord (l0[k] : Nat) (l1[k] : Nat) = ord n m := by
  rcases Nat.lt_or_ge l0[k] l1[k] with h | h
  · have := val_lt_of_part s0 hk0 hk1 hd h
    rw [ord_lt (by omega), ord_lt (by omega)]
  · have := val_lt_of_part s1 hk1 hk0 hd.symm (show l1[k] < l0[k] by omega)
    rw [ord_gt (by omega), ord_gt (by omega)]

set_option maxRecDepth 100000 in
set_option maxHeartbeats 800000 in
theorem compare_any (v0 v1 : Value) (n m : Nat) (w : World) (h0 : At w .u64 v0 (dig W n)) (h1 : At w .u64 v1 (dig W m)) :
    Calls Tryz.prog 83 #[v0, v1] w (ROrd (ord n m) w) := by
  have s0 := small_dig W2 n
  have s1 := small_dig W2 m
  have k1 : (dig W n).length < (dig W m).length → n < m := lt_of_sz_lt W2
  have k2 : (dig W m).length < (dig W n).length → m < n := lt_of_sz_lt W2
  have hv0 := val_dig W2 n
  have hv1 := val_dig W2 m
  generalize dig W n = l0 at *
  generalize dig W m = l1 at *
  have Hv0 := hid hv0; clear hv0
  have Hv1 := hid hv1; clear hv1
  obtain ⟨p0, c0, rfl, a1, a2, a3, a4⟩ := h0
  obtain ⟨p1, c1, rfl, b1, b2, b3, b4⟩ := h1
  unfold maxLen at a2 b2
  by_cases hl : l0.length = l1.length
  · have Hl := hid hl
    rw [hl] at a1 ⊢; clear hl
    go_enter Tryz.func83, Tryz.ntmps83
    go_wp2_with fail
    go_loopw [5] (fun i wr => ∃ (k : Nat), k ≤ l1.length ∧ i = .int .i64 ((k : Int) - 1) ∧ Hid (l0.drop k = l1.drop k) ∧ Hid (∃ j, wr = w.drewN j)) (fun i _ => (intOf i + 1).toNat)
    case atStart => exact ⟨l1.length, Nat.le_refl _, rfl, by unfold Hid; rw [List.drop_length, ← Hl.out, List.drop_length], 0, rfl⟩
    case round =>
      obtain ⟨k, hk, rfl, hd, Hw⟩ := hrel
      by_cases hk0 : 0 < k
      · obtain ⟨k, rfl⟩ : ∃ k', k = k' + 1 := ⟨k - 1, by omega⟩
        have hkl : k < l0.length := by rw [Hl.out]; omega
        obtain ⟨b, off, rfl, hbb, hc0⟩ := a4 (Nat.lt_of_le_of_lt (Nat.zero_le _) hkl)
        obtain ⟨b', off', rfl, hbb', hc1⟩ := b4 (by omega)
        have e0 : wr.cell? ⟨b, off + k, none⟩ = some (.int .u64 (l0[k] : Nat)) := by obtain ⟨j, rfl⟩ := Hw.out; exact hc0 k hkl
        have e1 : wr.cell? ⟨b', off' + k, none⟩ = some (.int .u64 (l1[k] : Nat)) := by obtain ⟨j, rfl⟩ := Hw.out; exact hc1 k (by omega)
        have ep := ord_part s0 s1 Hv0.out Hv1.out hkl (show k < l1.length by omega) hd.out
        have es : l0[k] = l1[k] → l0.drop k = l1.drop k := fun h => by
          rw [List.drop_eq_getElem_cons hkl, List.drop_eq_getElem_cons (show k < l1.length by omega), h, hd.out]
        generalize l0[k] = x at *
        generalize l1[k] = y at *
        have Ep := hid ep
        have Es : Hid (x = y → l0.drop k = l1.drop k) := es
        clear a4 b4 hc0 hc1 ep es hbb hbb' s0 s1 k1 k2
        have hlow : (0 : Int) ≤ (k : Int) + 1 - 1 := by omega
        have hsp : (k : Int) + 1 - 1 = (k : Int) := by omega
        by_cases hxy : x = y
        · subst hxy
          go_wp2
          go_quiet (fail)
          go_wp2
          go_roundw
          case rel => exact ⟨k, by omega, rfl, Es.out (by trivial), drawn_more Hw.out⟩
          case measure => simp [intOf]
        · have hb : ((x : Int) != (y : Int)) = true := bne_iff_ne.2 (fun h => hxy (by omega))
          go_wp2
          go_quiet (fail)
          go_wp2
          go_quiet ((go_at_call 102; exact quiet_add_same (cmpWord_any _ _ _)))
          go_wp2
          go_ret
          exact ⟨by rw [← Ep.out (fun h => hxy h)]; rfl, drawn_more (drawn_more Hw.out)⟩
      · obtain rfl : k = 0 := by omega
        have hn : ord n m = 0 := by
          have h := hd.out
          rw [List.drop_zero, List.drop_zero] at h
          rw [← Hv0.out, ← Hv1.out, h]; exact ord_eq _
        have Hn := hid hn
        clear hn a4 b4 k1 k2 hd
        go_wp2
        go_ret
        exact ⟨by rw [Hn.out]; rfl, Hw.out⟩
  · have hn : (l0.length < l1.length ∧ ord l0.length l1.length = ord n m) ∨ (l1.length < l0.length ∧ ord l0.length l1.length = ord n m) := by
      rcases Nat.lt_or_ge l0.length l1.length with h | h
      · exact Or.inl ⟨h, by have := k1 h; rw [ord_lt (by omega), ord_lt (by omega)]⟩
      · exact Or.inr ⟨by omega, by have := k2 (by omega); rw [ord_gt (by omega), ord_gt (by omega)]⟩
    have Hn : Hid (ord l0.length l1.length = ord n m) := by rcases hn with h | h <;> exact h.2
    clear hn a4 b4 k1 k2
    have hb : ((l0.length : Int) != (l1.length : Int)) = true := bne_iff_ne.2 (by omega)
    go_enter Tryz.func83, Tryz.ntmps83
    go_wp2_with (go_at_call 101; refine (cmpInt_any _ _ _).mono ?_; rintro e w' ⟨rfl, rfl⟩)
    go_ret
    exact ⟨by rw [← Hn.out]; rfl, 0, rfl⟩
end Go.Proofs.YtnfohbpgnbfmeaaGreatDoor
/- Small facts on new blocks. -/
namespace Go.Proofs.YtnfohbpgnbfmeaaGreatDoor
open Go.RowKit Big
theorem size_alloc (w : World) (o : Obj) : (w.alloc o).heap.size = w.heap.size + 1 := by simp
theorem heap_new2 (w : World) (o1 o2 : Obj) : ((w.alloc o1).alloc o2).drew.heap[w.heap.size + 1]? = some o2 := by
  have := heap_alloc_new (w.alloc o1) o2
  rwa [size_alloc] at this
theorem two_cells {w : World} {g : Nat} {a b : Value} {t : TypeId} (h : w.heap[g]? = some (.cells #[a, b] t (0, 0))) :
    w.cell? ⟨g, 0, none⟩ = some a ∧ w.cell? ⟨g, 1, none⟩ = some b ∧ w.frozen? ⟨g, 0, none⟩ = false ∧ w.frozen? ⟨g, 1, none⟩ = false :=
  ⟨by rw [cell_of_row w g 0 _ t (0, 0) h]; rfl, by rw [cell_of_row w g 1 _ t (0, 0) h]; rfl, frozen_of_row w g 0 _ t h, frozen_of_row w g 1 _ t h⟩
/-- block g is a variable that holds a whole number: a bool and a slice -/
def Pair (w : World) (g : Nat) (t : TypeId) : Prop := ∃ x p n c, w.heap[g]? = some (.cells #[.bool x, .slice p n c] t (0, 0))
theorem Pair.cells {w : World} {g : Nat} {t : TypeId} (h : Pair w g t) : ∃ a b, w.cell? ⟨g, 0, none⟩ = some a ∧ w.cell? ⟨g, 1, none⟩ = some b ∧ w.frozen? ⟨g, 0, none⟩ = false ∧ w.frozen? ⟨g, 1, none⟩ = false := by
  obtain ⟨x, p, n, c, h⟩ := h
  exact ⟨_, _, two_cells h⟩
theorem Pair.below {w w' : World} {g : Nat} {t : TypeId} (h : Pair w g t) (hb : Below w.heap.size w w') : Pair w' g t := by
  obtain ⟨x, p, n, c, h⟩ := h
  exact ⟨x, p, n, c, (hb.block g (Array.getElem?_eq_some_iff.1 h).1).trans h⟩
theorem Pair.lt {w : World} {g : Nat} {t : TypeId} (h : Pair w g t) : g < w.heap.size := by
  obtain ⟨x, p, n, c, h⟩ := h
  exact (Array.getElem?_eq_some_iff.1 h).1
theorem Pair.set0 {w : World} {g : Nat} {t : TypeId} (h : Pair w g t) (x : Bool) : Pair (w.setCell ⟨g, 0, none⟩ (.bool x)) g t := by
  obtain ⟨y, p, n, c, h⟩ := h
  exact ⟨x, p, n, c, heap_setCell_same w g 0 _ t _ h⟩
theorem Pair.set1 {w : World} {g : Nat} {t : TypeId} (h : Pair w g t) (p : Option Addr) (n c : Nat) : Pair (w.setCell ⟨g, 1, none⟩ (.slice p n c)) g t := by
  obtain ⟨y, p', n', c', h⟩ := h
  exact ⟨y, p, n, c, heap_setCell_same w g 1 _ t _ h⟩
theorem Pair.drew {w : World} {g : Nat} {t : TypeId} (h : Pair w g t) : Pair w.drew g t := h
theorem Pair.new (w : World) (x : Bool) (p : Option Addr) (n c : Nat) (t : TypeId) : Pair (w.alloc (.cells #[.bool x, .slice p n c] t)) w.heap.size t := ⟨x, p, n, c, heap_alloc_new w _⟩
theorem Pair.new1 (w : World) (o : Obj) (x : Bool) (p : Option Addr) (n c : Nat) (t : TypeId) : Pair ((w.alloc o).alloc (.cells #[.bool x, .slice p n c] t)) (w.heap.size + 1) t := by
  have := Pair.new (w.alloc o) x p n c t
  rwa [size_alloc] at this
theorem Pair.new2 (w : World) (o o' : Obj) (x : Bool) (p : Option Addr) (n c : Nat) (t : TypeId) : Pair (((w.alloc o).alloc o').alloc (.cells #[.bool x, .slice p n c] t)) (w.heap.size + 2) t := by
  have := Pair.new ((w.alloc o).alloc o') x p n c t
  rwa [size_alloc, size_alloc] at this
theorem Pair.new3 (w : World) (o o' o'' : Obj) (x : Bool) (p : Option Addr) (n c : Nat) (t : TypeId) : Pair ((((w.alloc o).alloc o').alloc o'').alloc (.cells #[.bool x, .slice p n c] t)) (w.heap.size + 1 + 1 + 1) t := by
  have := Pair.new (((w.alloc o).alloc o').alloc o'') x p n c t
  rwa [size_alloc, size_alloc, size_alloc] at this
/-- a store into such a variable turns no slice of numbers -/
theorem At.set {w : World} {k : IntKind} {v : Value} {l : List Nat} {g : Nat} {t : TypeId} (h : At w k v l) (hp : Pair w g t) (j : Nat) (u : Value) : At (w.setCell ⟨g, j, none⟩ u) k v l := by
  obtain ⟨p, cap, hv, h1, h2, h3, h4⟩ := h
  refine ⟨p, cap, hv, h1, h2, h3, fun hl => ?_⟩
  obtain ⟨b, off, h5, h6, h7⟩ := h4 hl
  have hne : b ≠ g := by
    rintro rfl
    obtain ⟨x, q, n, c, hh⟩ := hp
    have h0 := h7 0 hl
    rw [cell_of_row w b (off + 0) _ t (0, 0) hh] at h0
    rcases (by omega : off = 0 ∨ off = 1 ∨ 2 ≤ off) with e | e | e
    · subst e; simp at h0
    · subst e; simp at h0
    · rw [Array.getElem?_eq_none (by simpa using e)] at h0; cases h0
  refine ⟨b, off, h5, by simpa [World.setCell] using h6, fun i hi => ?_⟩
  rw [← h7 i hi]
  exact World.cell?_of_block (w := w) (Below.heap_setCell w _ u b hne)
theorem At.stored {w : World} {k : IntKind} {v : Value} {l : List Nat} {g : Nat} {t : TypeId} (h : At w k v l) (hp : Pair w g t) (x : Bool) (p : Option Addr) (n c : Nat) :
    At ((w.setCell ⟨g, 0, none⟩ (.bool x)).setCell ⟨g, 1, none⟩ (.slice p n c)) k v l := (h.set hp 0 _).set (hp.set0 x) 1 _
theorem IntAt.stored {w : World} {v : Value} {z : Int} {g : Nat} {t : TypeId} (h : IntAt w v z) (hp : Pair w g t) (x : Bool) (p : Option Addr) (n c : Nat) :
    IntAt ((w.setCell ⟨g, 0, none⟩ (.bool x)).setCell ⟨g, 1, none⟩ (.slice p n c)) v z := by
  obtain ⟨s, hs, ha⟩ := h
  exact ⟨s, hs, ha.stored hp x p n c⟩
theorem Below.stored {B : Nat} {w w' : World} (h : Below B w w') {g : Nat} (hg : B ≤ g) (u u' : Value) : Below B w ((w'.setCell ⟨g, 0, none⟩ u).setCell ⟨g, 1, none⟩ u') :=
  (h.setCell (p := ⟨g, 0, none⟩) hg u).setCell (p := ⟨g, 1, none⟩) hg u'
theorem IntAt.shape {w : World} {v : Value} {z : Int} (h : IntAt w v z) : ∃ p n c, v = .agg #[.bool (decide (z < 0)), .slice p n c] ∧ IntAt w (.agg #[.bool (decide (z < 0)), .slice p n c]) z := by
  obtain ⟨s, rfl, p, c, rfl, r⟩ := h
  exact ⟨p, _, c, rfl, _, rfl, p, c, rfl, r⟩
theorem At.oneI (w : World) (k : IntKind) (e : Int) (x : Nat) (t : TypeId) (h : e = (x : Int)) : At (w.alloc (.cells #[.int k e] t)) k (.slice (some ⟨w.heap.size, 0, none⟩) 1 1) [x] := by
  subst h; exact At.one w k x t
theorem cell_stored (w : World) {g : Nat} {p : Addr} (h : p.block ≠ g) (u u' : Value) : ((w.setCell ⟨g, 0, none⟩ u).setCell ⟨g, 1, none⟩ u').cell? p = w.cell? p :=
  World.cell?_of_block (w := w) ((Below.heap_setCell _ _ _ _ h).trans (Below.heap_setCell _ _ _ _ h))
/-- the cells of two variables that a call has laid for its arguments -/
structure Two (w : World) (g : Nat) (a b c d : Value) : Prop where
  c00 : w.cell? ⟨g, 0, none⟩ = some a
  c01 : w.cell? ⟨g, 1, none⟩ = some b
  c10 : w.cell? ⟨g + 1, 0, none⟩ = some c
  c11 : w.cell? ⟨g + 1, 1, none⟩ = some d
  lt : g + 2 ≤ w.heap.size
theorem Two.new (w : World) (a b c d : Value) (t : TypeId) : Two ((w.alloc (.cells #[a, b] t)).alloc (.cells #[c, d] t)) w.heap.size a b c d := by
  have h0 : ((w.alloc (.cells #[a, b] t)).alloc (.cells #[c, d] t)).heap[w.heap.size]? = some (.cells #[a, b] t (0, 0)) := by
    rw [heap_alloc_old _ _ (by simp)]; exact heap_alloc_new w _
  have h1 : ((w.alloc (.cells #[a, b] t)).alloc (.cells #[c, d] t)).heap[w.heap.size + 1]? = some (.cells #[c, d] t (0, 0)) := heap_new2 w _ _
  exact ⟨(two_cells h0).1, (two_cells h0).2.1, (two_cells h1).1, (two_cells h1).2.1, by simp⟩
theorem Two.below {w w' : World} {g : Nat} {a b c d : Value} (h : Two w g a b c d) (hb : Below w.heap.size w w') : Two w' g a b c d :=
  ⟨(hb.cell (p := ⟨g, 0, none⟩) (by have := h.lt; show g < _; omega)).trans h.c00, (hb.cell (p := ⟨g, 1, none⟩) (by have := h.lt; show g < _; omega)).trans h.c01,
   (hb.cell (p := ⟨g + 1, 0, none⟩) (by have := h.lt; show g + 1 < _; omega)).trans h.c10, (hb.cell (p := ⟨g + 1, 1, none⟩) (by have := h.lt; show g + 1 < _; omega)).trans h.c11, Nat.le_trans h.lt hb.size⟩
end Go.Proofs.YtnfohbpgnbfmeaaGreatDoor
/- whole.Norm, Neg, Sign, Cmp, Add, Sub. -/
namespace Go.Proofs.YtnfohbpgnbfmeaaGreatDoor
open Go.RowKit Big

set_option maxHeartbeats 800000 in
theorem Norm_any (v : Value) (z : Int) (w : World) (h : RawAt w v z) : Calls Tryz.prog 59 #[v] w (RInt z w) := by
  obtain ⟨neg, s, l, rfl, ha, hs, hl, rfl⟩ := h
  have Hs := hid (strip_dig W2 hs)
  go_enter Tryz.func59, Tryz.ntmps59
  go_wp2_with fail
  go_region_held3 (fun w' => w'.cell? ⟨w.heap.size, 0, none⟩ = some (.bool neg) ∧ w'.cell? ⟨w.heap.size, 1, none⟩ = some s ∧ Pair w' (w.heap.size + 1) 35)
    (first | (go_split_ands; (try dsimp only); (repeat' apply And.intro) <;> first | assumption | exact Pair.drew ‹_› | exact Pair.below ‹_› hb9 | exact Pair.below ‹_› hb8 | exact Pair.below ‹_› hb7 | exact Pair.below ‹_› hb6 | exact Pair.below ‹_› hb5 | exact Pair.below ‹_› hb4 | exact Pair.below ‹_› hb3 | exact Pair.below ‹_› hb2 | exact Pair.below ‹_› hb1 | exact (hb9.cell (by first | omega | (simp; omega) | (simp; done))).trans ‹_› | exact (hb8.cell (by first | omega | (simp; omega) | (simp; done))).trans ‹_› | exact (hb7.cell (by first | omega | (simp; omega) | (simp; done))).trans ‹_› | exact (hb6.cell (by first | omega | (simp; omega) | (simp; done))).trans ‹_› | exact (hb5.cell (by first | omega | (simp; omega) | (simp; done))).trans ‹_› | exact (hb4.cell (by first | omega | (simp; omega) | (simp; done))).trans ‹_› | exact (hb3.cell (by first | omega | (simp; omega) | (simp; done))).trans ‹_› | exact (hb2.cell (by first | omega | (simp; omega) | (simp; done))).trans ‹_› | exact (hb1.cell (by first | omega | (simp; omega) | (simp; done))).trans ‹_› | exact Pair.set1 (Pair.set0 ‹_› _) _ _ _ | exact (cell_stored _ (by first | (dsimp only; omega) | (simp; done) | (simp; omega)) _ _).trans ‹_› | exact Pair.drew (Pair.below ‹_› (below1 _ _)) | exact Pair.below ‹_› (below1 _ _) | exact Pair.far ‹_› (by omega) hb1 | exact Pair.new .. | exact Pair.new1 .. | exact Pair.new2 .. | (go_keep; done)) | (go_keep; done))
    (first
      | (go_at_call 73; refine (own_any s l _ ?_ hl).mono ?_; (repeat (first | exact ha | apply At.drew | apply At.alloc)); rintro e w1 ⟨v1, rfl, ho1, hb1⟩; have hz1 : w.heap.size + 2 ≤ w1.heap.size := (by have := hb1.size; simp at this; omega))
      | (go_at_call 72; refine (told_any neg _ _ _ (by rw [← Hs.out]; exact ho1.at)).mono ?_; rintro e w2 ⟨v2, rfl, hi2, hb2⟩; obtain ⟨p2, n2, c2, rfl, hi2⟩ := hi2.shape; have hpr := Pair.below (by go_split_ands; assumption) hb2; obtain ⟨_, _, q0, q1, q2, q3⟩ := hpr.cells))
  go_wp2
  exact bodyPost_ret (v := .agg #[.bool (decide (sg neg (val W l) < 0)), .slice p2 n2 c2]) (by simp [results, Tryz.results59, go_sem, q0, q1]) rfl
    ⟨_, rfl, hi2.stored hpr _ _ _ _, Below.stored ((((below1 _ _).alloc (by simp) _).drew.trans (hb1.mono (B' := w.heap.size) (by simp; omega))).trans (hb2.mono (B' := w.heap.size) (by omega))) (by omega) _ _⟩
end Go.Proofs.YtnfohbpgnbfmeaaGreatDoor
/- whole.Neg, Sign, Cmp, Add, Sub. -/
namespace Go.Proofs.YtnfohbpgnbfmeaaGreatDoor
open Go.RowKit Big

set_option maxHeartbeats 800000 in
theorem Neg_any (v : Value) (z : Int) (w : World) (h : RawAt w v z) : Calls Tryz.prog 52 #[v] w (RInt (-z) w) := by
  obtain ⟨neg, s, l, rfl, ha, hs, hl, rfl⟩ := h
  have Hs := hid (strip_dig W2 hs)
  have Hz : Hid (-sg neg (val W l) = sg (!neg) (val W l)) := by unfold Hid sg; cases neg <;> simp
  obtain ⟨z, hz⟩ : ∃ z, z = -sg neg (val W l) := ⟨_, rfl⟩
  rw [← hz]
  rw [← hz] at Hz
  clear hz
  go_enter Tryz.func52, Tryz.ntmps52
  go_wp2_with fail
  go_region_held3 (fun w' => w'.cell? ⟨w.heap.size, 0, none⟩ = some (.bool neg) ∧ w'.cell? ⟨w.heap.size, 1, none⟩ = some s ∧ Pair w' (w.heap.size + 1) 35)
    (first | (go_split_ands; (try dsimp only); (repeat' apply And.intro) <;> first | assumption | exact Pair.drew ‹_› | exact Pair.below ‹_› hb9 | exact Pair.below ‹_› hb8 | exact Pair.below ‹_› hb7 | exact Pair.below ‹_› hb6 | exact Pair.below ‹_› hb5 | exact Pair.below ‹_› hb4 | exact Pair.below ‹_› hb3 | exact Pair.below ‹_› hb2 | exact Pair.below ‹_› hb1 | exact (hb9.cell (by first | omega | (simp; omega) | (simp; done))).trans ‹_› | exact (hb8.cell (by first | omega | (simp; omega) | (simp; done))).trans ‹_› | exact (hb7.cell (by first | omega | (simp; omega) | (simp; done))).trans ‹_› | exact (hb6.cell (by first | omega | (simp; omega) | (simp; done))).trans ‹_› | exact (hb5.cell (by first | omega | (simp; omega) | (simp; done))).trans ‹_› | exact (hb4.cell (by first | omega | (simp; omega) | (simp; done))).trans ‹_› | exact (hb3.cell (by first | omega | (simp; omega) | (simp; done))).trans ‹_› | exact (hb2.cell (by first | omega | (simp; omega) | (simp; done))).trans ‹_› | exact (hb1.cell (by first | omega | (simp; omega) | (simp; done))).trans ‹_› | exact Pair.set1 (Pair.set0 ‹_› _) _ _ _ | exact (cell_stored _ (by first | (dsimp only; omega) | (simp; done) | (simp; omega)) _ _).trans ‹_› | exact Pair.drew (Pair.below ‹_› (below1 _ _)) | exact Pair.below ‹_› (below1 _ _) | exact Pair.far ‹_› (by omega) hb1 | exact Pair.new .. | exact Pair.new1 .. | exact Pair.new2 .. | (go_keep; done)) | (go_keep; done))
    (first
      | (go_at_call 73; refine (own_any s l _ ?_ hl).mono ?_; (repeat (first | exact ha | apply At.drew | apply At.alloc)); rintro e w1 ⟨v1, rfl, ho1, hb1⟩; have hz1 : w.heap.size + 2 ≤ w1.heap.size := (by have := hb1.size; simp at this; omega))
      | (go_at_call 72; refine (told_any (!neg) _ _ _ (by rw [← Hs.out]; exact ho1.at)).mono ?_; rintro e w2 ⟨v2, rfl, hi2, hb2⟩; obtain ⟨p2, n2, c2, rfl, hi2⟩ := hi2.shape; have hpr := Pair.below (by go_split_ands; assumption) hb2; obtain ⟨_, _, q0, q1, q2, q3⟩ := hpr.cells))
  go_wp2
  exact bodyPost_ret (v := .agg #[.bool (decide (sg (!neg) (val W l) < 0)), .slice p2 n2 c2]) (by simp [results, Tryz.results52, go_sem, q0, q1]) rfl
    ⟨_, rfl, by rw [Hz.out]; exact hi2.stored hpr _ _ _ _, Below.stored ((((below1 _ _).alloc (by simp) _).drew.trans (hb1.mono (B' := w.heap.size) (by simp; omega))).trans (hb2.mono (B' := w.heap.size) (by omega))) (by omega) _ _⟩

theorem sign_sg (neg : Bool) (n : Nat) : (sg neg n).sign = if n = 0 then 0 else if neg then -1 else 1 := by
  unfold sg
  by_cases h : n = 0
  · subst h; cases neg <;> simp
  · rw [if_neg h]
    cases neg
    · simp only [Bool.false_eq_true, if_false]; exact Int.sign_eq_one_of_pos (by omega)
    · simp only [if_true]; exact Int.sign_eq_neg_one_of_neg (by omega)

set_option maxHeartbeats 800000 in
theorem Sign_any (v : Value) (z : Int) (w : World) (h : RawAt w v z) : Calls Tryz.prog 30 #[v] w (fun e w' => e = .returned (.int .i64 z.sign) ∧ Below w.heap.size w w') := by
  obtain ⟨neg, s, l, rfl, ha, hs, hl, rfl⟩ := h
  have Hs := hid (strip_dig W2 hs)
  have Hz := hid (sign_sg neg (val W l))
  have ht : ∀ o, Calls Tryz.prog 46 #[s] (w.alloc o) (fun e w' => e = .returned (cutTo s (strip l).length) ∧ w' = w.alloc o) := fun o => trim_val s l _ (ha.alloc o)
  have Ht := hid ht; clear ht
  obtain ⟨p, c, rfl, -⟩ := ha
  obtain ⟨n, hn⟩ : ∃ n, n = val W l := ⟨_, rfl⟩
  obtain ⟨m, hm⟩ : ∃ m, m = (strip l).length := ⟨_, rfl⟩
  have hmn : m = 0 ↔ n = 0 := by rw [hm, Hs.out, ← hn]; exact sz_eq_zero W2
  rw [← hn] at Hz ⊢
  rw [← hm] at Ht
  clear hm hn
  obtain ⟨z, hz⟩ : ∃ z, z = (sg neg n).sign := ⟨_, rfl⟩
  rw [← hz] at Hz ⊢
  clear hz
  by_cases h0 : m = 0
  · have hz : z = 0 := by rw [Hz.out, if_pos (hmn.1 h0)]
    subst hz
    subst h0
    go_enter Tryz.func30, Tryz.ntmps30
    go_wp2_with (go_at_call 46; refine (Ht.out _).mono ?_; rintro e w' ⟨rfl, rfl⟩; simp only [cutTo])
    go_ret
    exact ⟨rfl, below1 _ _⟩
  · have hz : z = if neg then -1 else 1 := by rw [Hz.out, if_neg (fun e => h0 (hmn.2 e))]
    have hb : ((m : Int) == 0) = false := beq_eq_false_iff_ne.2 (by omega)
    cases neg
    · simp only [Bool.false_eq_true, if_false] at hz
      subst hz
      go_enter Tryz.func30, Tryz.ntmps30
      go_wp2_with (go_at_call 46; refine (Ht.out _).mono ?_; rintro e w' ⟨rfl, rfl⟩; simp only [cutTo])
      go_ret
      exact ⟨rfl, below1 _ _⟩
    · simp only [if_true] at hz
      subst hz
      go_enter Tryz.func30, Tryz.ntmps30
      go_wp2_with (go_at_call 46; refine (Ht.out _).mono ?_; rintro e w' ⟨rfl, rfl⟩; simp only [cutTo])
      go_ret
      exact ⟨rfl, below1 _ _⟩

end Go.Proofs.YtnfohbpgnbfmeaaGreatDoor
/- whole.told, whole.Norm: what they tell lies in memory of its own. -/
namespace Go.Proofs.YtnfohbpgnbfmeaaGreatDoor
open Go.RowKit Big

/-- a whole number as it is told, its words a row from block B on -/
def IntOwn (w : World) (B : Nat) (v : Value) (z : Int) : Prop := ∃ s, v = .agg #[.bool (decide (z < 0)), s] ∧ Own w B 84 .u64 s (dig W z.natAbs)
theorem IntOwn.told {w : World} {B : Nat} {v : Value} {z : Int} (h : IntOwn w B v z) : IntAt w v z := by
  obtain ⟨s, rfl, h⟩ := h
  exact ⟨s, rfl, h.at⟩
theorem IntOwn.kept {w w' : World} {B : Nat} {v : Value} {z : Int} (h : IntOwn w B v z) (hb : Below w.heap.size w w') : IntOwn w' B v z := by
  obtain ⟨s, rfl, h⟩ := h
  exact ⟨s, rfl, h.kept hb⟩
theorem IntOwn.mono {w : World} {B B' : Nat} {v : Value} {z : Int} (h : IntOwn w B v z) (hb : B' ≤ B) : IntOwn w B' v z := by
  obtain ⟨s, rfl, h⟩ := h
  exact ⟨s, rfl, h.mono hb⟩
theorem IntOwn.zero (w : World) (B : Nat) : IntOwn w B (.agg #[.bool false, .slice none 0 0]) 0 := ⟨_, by simp, Own.nil w B _ _⟩
theorem IntOwn.mk {w : World} {B : Nat} {neg : Bool} {s : Value} {n : Nat} (h0 : n ≠ 0) (h : Own w B 84 .u64 s (dig W n)) : IntOwn w B (.agg #[.bool neg, s]) (sg neg n) :=
  ⟨s, by rw [sg_neg neg n h0], by rw [sg_natAbs]; exact h⟩
theorem IntOwn.shape {w : World} {B : Nat} {v : Value} {z : Int} (h : IntOwn w B v z) : ∃ p n c, v = .agg #[.bool (decide (z < 0)), .slice p n c] ∧ IntOwn w B (.agg #[.bool (decide (z < 0)), .slice p n c]) z := by
  have h1 := h.told
  obtain ⟨p, n, c, rfl, -⟩ := h1.shape
  exact ⟨p, n, c, rfl, h⟩
theorem IntOwn.stored {w : World} {B : Nat} {v : Value} {z : Int} {g : Nat} (h : IntOwn w B v z) (hg : g < B) (u u' : Value) :
    IntOwn ((w.setCell ⟨g, 0, none⟩ u).setCell ⟨g, 1, none⟩ u') B v z := by
  obtain ⟨s, rfl, h⟩ := h
  exact ⟨s, rfl, ownsRow_setCell_below (ownsRow_setCell_below h (a := ⟨g, 0, none⟩) hg u) (a := ⟨g, 1, none⟩) hg u'⟩

set_option maxHeartbeats 400000 in
theorem told_own (neg : Bool) (s : Value) (n B : Nat) (w : World) (h : Own w B 84 .u64 s (dig W n)) :
    Calls Tryz.prog 72 #[.bool neg, s] w fun e w' => ∃ v, e = .returned v ∧ IntOwn w' B v (sg neg n) ∧ Below w.heap.size w w' := by
  have hat := hid h
  obtain ⟨p, cap, rfl, h1, h2, h3, h4⟩ := h.at
  unfold maxLen at h2
  clear h4 h
  by_cases h0 : (dig W n).length = 0
  · have hn : n = 0 := (dig_eq_nil W2).1 (List.eq_nil_of_length_eq_zero h0)
    have Hn := hid hn; clear hn
    go_enter Tryz.func72, Tryz.ntmps72
    go_wp2
    exact bodyPost_ret (v := .agg #[.bool false, .slice none 0 0]) (by simp [results, Tryz.results72, go_sem]) rfl ⟨_, rfl, by rw [Hn.out, sg_zero]; exact IntOwn.zero _ _, below1 _ _⟩
  · have hn : n ≠ 0 := fun e => h0 (by rw [e]; rfl)
    have Hn := hid hn; clear hn
    go_enter Tryz.func72, Tryz.ntmps72
    go_wp2
    exact bodyPost_ret (v := .agg #[.bool neg, .slice p (dig W n).length cap]) (by simp [results, Tryz.results72, go_sem]) rfl ⟨_, rfl, IntOwn.mk Hn.out (hat.out.kept (below1 _ _)), below1 _ _⟩

set_option maxHeartbeats 1600000 in
theorem Norm_own (v : Value) (z : Int) (w : World) (h : RawAt w v z) : Calls Tryz.prog 59 #[v] w fun e w' => ∃ v', e = .returned v' ∧ IntOwn w' w.heap.size v' z ∧ Below w.heap.size w w' := by
  obtain ⟨neg, s, l, rfl, ha, hs, hl, rfl⟩ := h
  have Hs := hid (strip_dig W2 hs)
  go_enter Tryz.func59, Tryz.ntmps59
  go_wp2_with fail
  go_region_held3 (fun w' => w'.cell? ⟨w.heap.size, 0, none⟩ = some (.bool neg) ∧ w'.cell? ⟨w.heap.size, 1, none⟩ = some s ∧ Pair w' (w.heap.size + 1) 35)
    (first | (go_split_ands; (try dsimp only); (repeat' apply And.intro) <;> first | assumption | exact Pair.drew ‹_› | exact Pair.below ‹_› hb9 | exact Pair.below ‹_› hb8 | exact Pair.below ‹_› hb7 | exact Pair.below ‹_› hb6 | exact Pair.below ‹_› hb5 | exact Pair.below ‹_› hb4 | exact Pair.below ‹_› hb3 | exact Pair.below ‹_› hb2 | exact Pair.below ‹_› hb1 | exact (hb9.cell (by first | omega | (simp; omega) | (simp; done))).trans ‹_› | exact (hb8.cell (by first | omega | (simp; omega) | (simp; done))).trans ‹_› | exact (hb7.cell (by first | omega | (simp; omega) | (simp; done))).trans ‹_› | exact (hb6.cell (by first | omega | (simp; omega) | (simp; done))).trans ‹_› | exact (hb5.cell (by first | omega | (simp; omega) | (simp; done))).trans ‹_› | exact (hb4.cell (by first | omega | (simp; omega) | (simp; done))).trans ‹_› | exact (hb3.cell (by first | omega | (simp; omega) | (simp; done))).trans ‹_› | exact (hb2.cell (by first | omega | (simp; omega) | (simp; done))).trans ‹_› | exact (hb1.cell (by first | omega | (simp; omega) | (simp; done))).trans ‹_› | exact Pair.set1 (Pair.set0 ‹_› _) _ _ _ | exact (cell_stored _ (by first | (dsimp only; omega) | (simp; done) | (simp; omega)) _ _).trans ‹_› | exact Pair.drew (Pair.below ‹_› (below1 _ _)) | exact Pair.below ‹_› (below1 _ _) | exact Pair.far ‹_› (by omega) hb1 | exact Pair.new .. | exact Pair.new1 .. | exact Pair.new2 .. | (go_keep; done)) | (go_keep; done))
    (first
      | (go_at_call 73; refine (own_any s l _ ?_ hl).mono ?_; (repeat (first | exact ha | apply At.drew | apply At.alloc)); rintro e w1 ⟨v1, rfl, ho1, hb1⟩; have hz1 : w.heap.size + 2 ≤ w1.heap.size := (by have := hb1.size; simp at this; omega); have ho1 := ho1.mono (base' := w.heap.size + 2) (by simp))
      | (go_at_call 72; refine (told_own neg _ _ (w.heap.size + 2) _ (by rw [← Hs.out]; exact ho1)).mono ?_; rintro e w2 ⟨v2, rfl, hi2, hb2⟩; obtain ⟨p2, n2, c2, rfl, hi2⟩ := hi2.shape; have hpr := Pair.below (by go_split_ands; assumption) hb2; obtain ⟨_, _, q0, q1, q2, q3⟩ := hpr.cells))
  go_wp2
  exact bodyPost_ret (v := .agg #[.bool (decide (sg neg (val W l) < 0)), .slice p2 n2 c2]) (by simp [results, Tryz.results59, go_sem, q0, q1]) rfl
    ⟨_, rfl, (hi2.stored (by omega) _ _).mono (by omega), Below.stored ((((below1 _ _).alloc (by simp) _).drew.trans (hb1.mono (B' := w.heap.size) (by simp; omega))).trans (hb2.mono (B' := w.heap.size) (by omega))) (by omega) _ _⟩
end Go.Proofs.YtnfohbpgnbfmeaaGreatDoor
/- What stays when a call writes into blocks of a set S alone, and into new ones. -/
namespace Go.Proofs.YtnfohbpgnbfmeaaGreatDoor
open Go.RowKit

/-- of what was there only blocks of S may have turned -/
structure Apart (S : Nat → Prop) (w w' : World) : Prop where
  os : w'.os = w.os
  tape : w'.tape = w.tape
  output : w'.output = w.output
  size : w.heap.size ≤ w'.heap.size
  block : ∀ k, k < w.heap.size → ¬ S k → w'.heap[k]? = w.heap[k]?
theorem Apart.refl (S : Nat → Prop) (w : World) : Apart S w w := ⟨rfl, rfl, rfl, Nat.le_refl _, fun _ _ _ => rfl⟩
theorem Apart.trans {S S' : Nat → Prop} {a b c : World} (h : Apart S a b) (k : Apart S' b c) (hS : ∀ i, S' i → S i ∨ a.heap.size ≤ i) : Apart S a c :=
  ⟨k.os.trans h.os, k.tape.trans h.tape, k.output.trans h.output, Nat.le_trans h.size k.size, fun i hi hn => (k.block i (Nat.lt_of_lt_of_le hi h.size) (fun hs => by
    rcases hS i hs with h1 | h1
    · exact hn h1
    · omega)).trans (h.block i hi hn)⟩
theorem Apart.go {S : Nat → Prop} {a b c : World} (h : Apart S a b) (k : Apart S b c) : Apart S a c := h.trans k (fun _ h => .inl h)
theorem Apart.mono {S S' : Nat → Prop} {w w' : World} (h : Apart S w w') (hS : ∀ i, S i → S' i) : Apart S' w w' :=
  ⟨h.os, h.tape, h.output, h.size, fun i hi hn => h.block i hi (fun hs => hn (hS i hs))⟩
theorem Apart.of_below {S : Nat → Prop} {w w' : World} (h : Below w.heap.size w w') : Apart S w w' := ⟨h.os, h.tape, h.output, h.size, fun i hi _ => h.block i hi⟩
theorem Apart.below {S : Nat → Prop} {w w' : World} {B : Nat} (h : Apart S w w') (hB : B ≤ w.heap.size) (hS : ∀ i, S i → B ≤ i) : Below B w w' :=
  ⟨h.os, h.tape, h.output, h.size, fun i hi => h.block i (by omega) (fun hs => by have := hS i hs; omega)⟩
theorem Apart.setCell {S : Nat → Prop} {a w : World} (h : Apart S a w) {p : Addr} (hp : S p.block) (u : Value) : Apart S a (w.setCell p u) :=
  h.go ⟨rfl, rfl, rfl, by simp [World.setCell], fun k _ hn => Below.heap_setCell _ _ _ _ (fun e => hn (by rw [e]; exact hp))⟩
theorem Apart.grown {S : Nat → Prop} {a w w' : World} {row : Option Nat} (h : Apart S a w) (hg : w.grownBy w' row) (hr : ∀ k, row = some k → S k) : Apart S a w' :=
  h.go ⟨hg.os, hg.tape, hg.output, hg.size, fun k hk hn => hg.block k hk (fun e => hn (hr k e.symm))⟩
theorem Apart.drew {S : Nat → Prop} {a w : World} (h : Apart S a w) : Apart S a w.drew := ⟨h.os, h.tape, h.output, h.size, h.block⟩
theorem Apart.drewN {S : Nat → Prop} {a w : World} (h : Apart S a w) (n : Nat) : Apart S a (w.drewN n) := ⟨h.os, h.tape, h.output, h.size, h.block⟩
theorem Apart.cell {S : Nat → Prop} {w w' : World} (h : Apart S w w') {p : Addr} (hp : p.block < w.heap.size) (hn : ¬ S p.block) : w'.cell? p = w.cell? p :=
  World.cell?_of_block (w := w) (h.block p.block hp hn)

/-- the block of a row, if it has one, is one of S -/
def InS (S : Nat → Prop) (v : Value) : Prop := ∀ k, v.ownBlock = some k → S k
theorem InS.mono {S S' : Nat → Prop} {v : Value} (h : InS S v) (hS : ∀ i, S i → S' i) : InS S' v := fun k hk => hS k (h k hk)
/-- a row stays where its block does -/
theorem row_stays {w w' : World} {base : Nat} {e : TypeId} {size : Nat} {v : Value} {n : Nat} {xs : List Value} (h : w.ownsRow base e size v n xs) (hb : ∀ k, v.ownBlock = some k → w'.heap[k]? = w.heap[k]?) : w'.ownsRow base e size v n xs := by
  obtain ⟨hl, h0 | ⟨g, cap, cur, rfl, hg, hh, r⟩⟩ := h
  · exact ⟨hl, .inl h0⟩
  · exact ⟨hl, .inr ⟨g, cap, cur, rfl, hg, (hb g rfl).trans hh, r⟩⟩
theorem row_tag {w : World} {b : Nat} {e : TypeId} {s : Nat} {v : Value} {n : Nat} {xs : List Value} (h : w.ownsRow b e s v n xs) : ∀ k, v.ownBlock = some k → ∃ c, w.heap[k]? = some (.cells c e (0, 0)) := by
  intro k hk
  rcases h.2 with ⟨rfl, _⟩ | ⟨g, cap, cur, rfl, _, hg, _⟩
  · cases hk
  · cases hk; exact ⟨_, hg⟩

end Go.Proofs.YtnfohbpgnbfmeaaGreatDoor
/- Rows whose parts are told by a predicate; numbers as they come in; what stays when only blocks of some types turn; rows of one's own. -/
namespace Go.Proofs.YtnfohbpgnbfmeaaGreatDoor
open Go.RowKit Big

theorem ownsRow_later {w w' : World} {base : Nat} {e : TypeId} {size : Nat} {v : Value} {n : Nat} {xs : List Value} (h : w.ownsRow base e size v n xs) (hb : Below w.heap.size w w') : w'.ownsRow base e size v n xs := by
  obtain ⟨hl, h0 | ⟨g, cap, cur, hv, hg, hh, r⟩⟩ := h
  · exact ⟨hl, .inl h0⟩
  · exact ⟨hl, .inr ⟨g, cap, cur, hv, hg, (hb.block g (Array.getElem?_eq_some_iff.1 hh).1).trans hh, r⟩⟩
theorem ownsRow_shape {w : World} {base : Nat} {e : TypeId} {size : Nat} {v : Value} {n : Nat} {xs : List Value} (h : w.ownsRow base e size v n xs) : ∃ p c, v = .slice p n c := by
  rcases h.2 with ⟨rfl, rfl⟩ | ⟨g, cap, cur, rfl, _⟩
  · exact ⟨_, _, rfl⟩
  · exact ⟨_, _, rfl⟩
theorem ownsRow_mono {w : World} {base base' : Nat} {e : TypeId} {size : Nat} {v : Value} {n : Nat} {xs : List Value} (h : w.ownsRow base e size v n xs) (hb : base' ≤ base) : w.ownsRow base' e size v n xs := by
  obtain ⟨hl, h0 | ⟨g, cap, cur, hv, hg, r⟩⟩ := h
  · exact ⟨hl, .inl h0⟩
  · exact ⟨hl, .inr ⟨g, cap, cur, hv, Nat.le_trans hb hg, r⟩⟩
/-- a row whose parts of k cells are told by Q -/
def LsIn {α : Type} (k : Nat) (Q : World → List Value → α → Prop) (w : World) (v : Value) (l : List α) : Prop :=
  ∃ p cap, v = .slice p l.length cap ∧ l.length ≤ cap ∧ cap ≤ maxLen ∧ (p = none → cap = 0) ∧
    (0 < l.length → ∃ b off, p = some ⟨b, off, none⟩ ∧ b < w.heap.size ∧ ∀ i (h : i < l.length), ∃ c : List Value, (∀ j u, c[j]? = some u → w.cell? ⟨b, off + i * k + j, none⟩ = some u) ∧ Q w c l[i])
theorem LsIn.below {α : Type} {k : Nat} {Q : World → List Value → α → Prop} (hQ : ∀ {w w' : World} {c : List Value} {x : α}, Q w c x → Below w.heap.size w w' → Q w' c x) {w w' : World} {v : Value} {l : List α} (h : LsIn k Q w v l) (hb : Below w.heap.size w w') : LsIn k Q w' v l := by
  obtain ⟨p, cap, rfl, h1, h2, h3, h4⟩ := h
  refine ⟨p, cap, rfl, h1, h2, h3, fun hp => ?_⟩
  obtain ⟨b, off, h5, h6, h7⟩ := h4 hp
  refine ⟨b, off, h5, Nat.lt_of_lt_of_le h6 hb.size, fun i hi => ?_⟩
  obtain ⟨c, k1, k2⟩ := h7 i hi
  exact ⟨c, fun j u hj => (hb.cell (p := ⟨b, off + i * k + j, none⟩) h6).trans (k1 j u hj), hQ k2 hb⟩
/-- a number as it comes in -/
structure Nx where
  neg : Bool
  words : List Nat
def Nx.z (x : Nx) : Int := sg x.neg (val W x.words)
def NxQ (w : World) (c : List Value) (x : Nx) : Prop := ∃ p cp, c = [.bool x.neg, .slice p x.words.length cp] ∧ At w .u64 (.slice p x.words.length cp) x.words ∧ Small W x.words
theorem NxQ.below {w w' : World} {c : List Value} {x : Nx} (h : NxQ w c x) (hb : Below w.heap.size w w') : NxQ w' c x := by
  obtain ⟨p, cp, e, h1, h2⟩ := h
  exact ⟨p, cp, e, h1.below hb, h2⟩
def Nx.fit (x : Nx) : Prop := x.words.length ≤ 6
theorem NxQ.raw {w : World} {n s : Value} {x : Nx} (h : NxQ w [n, s] x) (hf : x.fit) : RawAt w (.agg #[n, s]) x.z := by
  obtain ⟨p, cp, e, h1, h2⟩ := h
  injection e with e0 e
  injection e with e1 _
  subst e0 e1
  exact ⟨_, _, _, rfl, h1, h2, Nat.le_trans hf (by decide), rfl⟩
theorem NxQ.small {w : World} {c : List Value} {x : Nx} (h : NxQ w c x) (hf : x.fit) : sz W x.z.natAbs ≤ 6 := by
  obtain ⟨p, cp, e, h1, h2⟩ := h
  unfold Nx.z
  rw [sg_natAbs]
  exact Nat.le_trans (sz_val W2 h2) hf
theorem NxQ.two {w : World} {c : List Value} {x : Nx} (h : NxQ w c x) : ∃ s, c = [.bool x.neg, s] := by
  obtain ⟨p, cp, e, -⟩ := h
  exact ⟨_, e⟩
abbrev NxsIn := LsIn 2 NxQ
theorem NxsIn.below {w w' : World} {v : Value} {l : List Nx} (h : NxsIn w v l) (hb : Below w.heap.size w w') : NxsIn w' v l := LsIn.below (Q := NxQ) (fun h hb => NxQ.below h hb) h hb
theorem NxsIn.small {w : World} {v : Value} {l : List Nx} (h : NxsIn w v l) (hf : ∀ x ∈ l, x.fit) : ∀ z ∈ l.map Nx.z, sz W z.natAbs ≤ 6 := by
  intro z hz
  obtain ⟨x, hx, rfl⟩ := List.mem_map.1 hz
  obtain ⟨i, hi, rfl⟩ := List.mem_iff_getElem.1 hx
  obtain ⟨p, cap, -, -, -, -, h4⟩ := h
  obtain ⟨b, off, -, -, h7⟩ := h4 (by omega)
  obtain ⟨c, -, k2⟩ := h7 i hi
  exact k2.small (hf _ hx)
/-- of what was there only blocks of these types may have turned -/
structure OffT (Ts : List TypeId) (w w' : World) : Prop where
  os : w'.os = w.os
  tape : w'.tape = w.tape
  output : w'.output = w.output
  size : w.heap.size ≤ w'.heap.size
  block : ∀ (k : Nat) (c : Array Value) (T : TypeId), w.heap[k]? = some (.cells c T (0, 0)) → T ∉ Ts → w'.heap[k]? = some (.cells c T (0, 0))
theorem OffT.refl (Ts : List TypeId) (w : World) : OffT Ts w w := ⟨rfl, rfl, rfl, Nat.le_refl _, fun _ _ _ h _ => h⟩
theorem OffT.trans {Ts : List TypeId} {a b c : World} (h : OffT Ts a b) (k : OffT Ts b c) : OffT Ts a c :=
  ⟨k.os.trans h.os, k.tape.trans h.tape, k.output.trans h.output, Nat.le_trans h.size k.size, fun i o T hi hn => k.block i o T (h.block i o T hi hn) hn⟩
theorem OffT.mono {Ts Ts' : List TypeId} {a b : World} (h : OffT Ts a b) (hs : ∀ T ∈ Ts, T ∈ Ts') : OffT Ts' a b :=
  ⟨h.os, h.tape, h.output, h.size, fun i o T hi hn => h.block i o T hi (fun hT => hn (hs T hT))⟩
theorem OffT.of_below {Ts : List TypeId} {w w' : World} (h : Below w.heap.size w w') : OffT Ts w w' :=
  ⟨h.os, h.tape, h.output, h.size, fun i _ _ hi _ => (h.block i (Array.getElem?_eq_some_iff.1 hi).1).trans hi⟩
theorem OffT.row {Ts : List TypeId} {w w' : World} (h : OffT Ts w w') {b : Nat} {e : TypeId} {s : Nat} {v : Value} {n : Nat} {xs : List Value} (hr : w.ownsRow b e s v n xs) (he : e ∉ Ts) : w'.ownsRow b e s v n xs :=
  row_stays hr fun k hk => by
    obtain ⟨c, hc⟩ := row_tag hr k hk
    rw [hc]
    exact h.block k c e hc he
theorem OffT.own {Ts : List TypeId} {w w' : World} (h : OffT Ts w w') {B : Nat} {v : Value} {z : Int} (hi : IntOwn w B v z) (he : 84 ∉ Ts) : IntOwn w' B v z := by
  obtain ⟨s, hs, ho⟩ := hi
  exact ⟨s, hs, h.row ho he⟩
/-- a row of one's own whose parts of k cells are told by Q -/
def OwnLs {α : Type} (e : TypeId) (k : Nat) (Q : World → List Value → α → Prop) (B : Nat) (w : World) (v : Value) (l : List α) : Prop :=
  ∃ css : List (List Value), css.length = l.length ∧ w.ownsRow B e k v l.length css.flatten ∧ (∀ c ∈ css, c.length = k) ∧ ∀ i (h : i < l.length) (h' : i < css.length), Q w css[i] l[i]
theorem OwnLs.nil {α : Type} (e : TypeId) (k : Nat) (Q : World → List Value → α → Prop) (B : Nat) (w : World) : OwnLs e k Q B w (.slice none 0 0) ([] : List α) :=
  ⟨[], rfl, World.ownsRow_nil w B e k, nofun, fun i h => absurd h (by simp)⟩
theorem OwnLs.off {α : Type} {e : TypeId} {k : Nat} {Q : World → List Value → α → Prop} {B : Nat} {w w' : World} {v : Value} {l : List α} (h : OwnLs e k Q B w v l) {Ts : List TypeId} (hf : OffT Ts w w') (he : e ∉ Ts) (hQ : ∀ c x, Q w c x → Q w' c x) : OwnLs e k Q B w' v l := by
  obtain ⟨css, h1, h2, h3, h4⟩ := h
  exact ⟨css, h1, hf.row h2 he, h3, fun i hi hi' => hQ _ _ (h4 i hi hi')⟩
/-- what is told of the parts is kept, and the row's block stays -/
theorem OwnLs.kept {α : Type} {e : TypeId} {k : Nat} {Q : World → List Value → α → Prop} {B : Nat} {w w' : World} {v : Value} {l : List α} (h : OwnLs e k Q B w v l) (hb : ∀ g, v.ownBlock = some g → w'.heap[g]? = w.heap[g]?) (hQ : ∀ c x, Q w c x → Q w' c x) : OwnLs e k Q B w' v l := by
  obtain ⟨css, h1, h2, h3, h4⟩ := h
  exact ⟨css, h1, row_stays h2 hb, h3, fun i hi hi' => hQ _ _ (h4 i hi hi')⟩
theorem OwnLs.mono {α : Type} {e : TypeId} {k : Nat} {Q : World → List Value → α → Prop} {B B' : Nat} {w : World} {v : Value} {l : List α} (h : OwnLs e k Q B w v l) (hB : B' ≤ B) : OwnLs e k Q B' w v l := by
  obtain ⟨css, h1, h2, h3, h4⟩ := h
  exact ⟨css, h1, ownsRow_mono h2 hB, h3, h4⟩
theorem OwnLs.row {α : Type} {e : TypeId} {k : Nat} {Q : World → List Value → α → Prop} {B : Nat} {w : World} {v : Value} {l : List α} (h : OwnLs e k Q B w v l) : ∃ xs, w.ownsRow B e k v l.length xs ∧
    ∀ w' v' c x, w'.ownsRow B e k v' (l.length + 1) (xs ++ c) → c.length = k → (∀ c x, Q w c x → Q w' c x) → Q w' c x → OwnLs e k Q B w' v' (l ++ [x]) := by
  obtain ⟨css, h1, h2, h3, h4⟩ := h
  refine ⟨css.flatten, h2, fun w' v' c x hr hc hQ hx => ⟨css ++ [c], by simp [h1], by simpa using hr, fun d hd => ?_, fun i hi hi' => ?_⟩⟩
  · rcases List.mem_append.1 hd with hd | hd
    · exact h3 d hd
    · rw [List.mem_singleton.1 hd]; exact hc
  · by_cases hlt : i < l.length
    · rw [List.getElem_append_left hlt, List.getElem_append_left (by omega)]
      exact hQ _ _ (h4 i hlt (by omega))
    · have e1 : i = l.length := by simp at hi; omega
      subst e1
      rw [List.getElem_append_right (Nat.le_refl _), List.getElem_append_right (by omega)]
      simpa [h1] using hx
theorem OwnLs.shape {α : Type} {e : TypeId} {k : Nat} {Q : World → List Value → α → Prop} {B : Nat} {w : World} {v : Value} {l : List α} (h : OwnLs e k Q B w v l) : ∃ p c, v = .slice p l.length c := by
  obtain ⟨css, h1, h2, h3, h4⟩ := h
  exact ownsRow_shape h2
theorem flatten_at {k : Nat} : ∀ {css : List (List Value)}, (∀ c ∈ css, c.length = k) → ∀ i (h : i < css.length) j u, css[i][j]? = some u → css.flatten[i * k + j]? = some u
  | c :: css, hc, 0, _, j, u, hj => by
    have hj : c[j]? = some u := hj
    have hl := (List.getElem?_eq_some_iff.1 hj).1
    rw [Nat.zero_mul, Nat.zero_add, List.flatten_cons, List.getElem?_append_left hl]
    exact hj
  | c :: css, hc, i + 1, h, j, u, hj => by
    have h1 := flatten_at (css := css) (fun d hd => hc d (by simp [hd])) i (by simpa using h) j u hj
    have h2 := hc c (by simp)
    rw [List.flatten_cons, List.getElem?_append_right (by rw [h2, Nat.succ_mul]; omega), h2]
    rw [show (i + 1) * k + j - k = i * k + j from by rw [Nat.succ_mul]; omega]
    exact h1
/-- it reads so -/
theorem OwnLs.in {α : Type} {e : TypeId} {k : Nat} {Q : World → List Value → α → Prop} {B : Nat} {w : World} {v : Value} {l : List α} (h : OwnLs e k Q B w v l) : LsIn k Q w v l := by
  obtain ⟨css, h1, h2, h3, h4⟩ := h
  rcases id h2.2 with ⟨rfl, h0⟩ | ⟨g, cap, cur, rfl, hb, hh, k1, k2, k3, k4⟩
  · have : l = [] := List.eq_nil_of_length_eq_zero h0
    subst this
    exact ⟨none, 0, rfl, by simp, by simp [maxLen], fun _ => rfl, fun h => absurd h (by simp)⟩
  · refine ⟨_, cap, rfl, k1, k2, by simp, fun _ => ⟨g, 0, rfl, (Array.getElem?_eq_some_iff.1 hh).1, fun i hi => ⟨css[i]'(by omega), fun j u hj => ?_, h4 i hi (by omega)⟩⟩⟩
    have h5 := flatten_at h3 i (by omega) j u hj
    have := h2.cells (g := g) rfl _ _ h5
    rw [Go.WideShapes.add_plain] at this
    rw [← this]
    congr 2
    omega
/-- a number's two cells, its words of one's own -/
def IoQ (B : Nat) (w : World) (c : List Value) (z : Int) : Prop := ∃ s, c = [.bool (decide (z < 0)), s] ∧ IntOwn w B (.agg #[.bool (decide (z < 0)), s]) z
theorem IoQ.off {B : Nat} {w w' : World} {c : List Value} {z : Int} (h : IoQ B w c z) {Ts : List TypeId} (hf : OffT Ts w w') (he : 84 ∉ Ts) : IoQ B w' c z := by
  obtain ⟨s, e, h⟩ := h
  exact ⟨s, e, hf.own h he⟩
theorem IoQ.mono {B B' : Nat} {w : World} {c : List Value} {z : Int} (h : IoQ B w c z) (hB : B' ≤ B) : IoQ B' w c z := by
  obtain ⟨s, e, h⟩ := h
  exact ⟨s, e, h.mono hB⟩
end Go.Proofs.YtnfohbpgnbfmeaaGreatDoor
/- A region that draws its order, walked operation by operation under an invariant that speaks of what has come up: no branching over the orders. -/
namespace Go.Proofs.YtnfohbpgnbfmeaaGreatDoor

theorem count_false_set (l : List Bool) (i : Nat) (h : i < l.length) (hf : l[i] = false) : (l.set i true).count false + 1 = l.count false := by
  induction l generalizing i with
  | nil => simp at h
  | cons b l ih =>
    cases i with
    | zero => simp at hf; subst hf; simp
    | succ i =>
      have := ih i (by simpa using h) (by simpa using hf)
      cases b <;> simp [List.set_cons_succ] <;> omega

/-- edges lead to lower numbers -/
def edgesDown (md : Region.Mode) (ops : Array Oper) : Bool := (List.range ops.size).all fun i => (ops[i]?).all fun o => o.after.all fun e => !Region.binds md e || decide (e.on < i)

theorem all_listed {md : Region.Mode} {ops : Array Oper} (hd : edgesDown md ops = true) {listed : Array Bool} (hs : listed.size = ops.size) (hr : Region.ready md ops listed = []) : ∀ i, i < ops.size → listed.getD i true = true := by
  intro i
  induction i using Nat.strongRecOn with
  | _ i ih =>
    intro hi
    cases hun : listed.getD i true with
    | true => rfl
    | false =>
    have : i ∈ Region.ready md ops listed := mem_ready.2 ⟨hun, ops[i], by simp [hi], fun e he hb => by
      have h1 := List.all_eq_true.1 hd i (by simpa using hi)
      have h2 : ops[i]? = some ops[i] := by simp [hi]
      rw [h2] at h1
      simp only [Option.all_some, Array.all_eq_true_iff_forall_mem] at h1
      have hlt : e.on < i := by simpa [hb] using h1 e he
      have h4 := ih e.on hlt (by omega)
      have h5 : e.on < listed.size := by omega
      simpa [Array.getD, h5] using h4⟩
    rw [hr] at this; cases this

/-- six slots set -/
def put6 (a : Act) (d1 d2 d3 d4 d5 d6 : Tmp) (v1 v2 v3 v4 v5 v6 : Value) : Act := (((((a.put (some d1) v1).put (some d2) v2).put (some d3) v3).put (some d4) v4).put (some d5) v5).put (some d6) v6
end Go.Proofs.YtnfohbpgnbfmeaaGreatDoor
/- A region that draws its order: each operation is shown once to give its own fact, which lasts; the stores come last, one by one. -/
namespace Go.Proofs.YtnfohbpgnbfmeaaGreatDoor
open Go.RowKit

/-- a fact of a slot's value that lasts while memory grows -/
structure SFact where
  P : Value → World → Prop
  st : ∀ v w w', P v w → Below w.heap.size w w' → P v w'
def putAll (a : Act) : List Tmp → List Value → Act
  | d :: ds, v :: vs => putAll (a.put (some d) v) ds vs
  | _, _ => a
/-- i waits for j, by at most so many steps -/
def reach (md : Region.Mode) (ops : Array Oper) : Nat → Nat → Nat → Bool
  | 0, _, _ => false
  | f + 1, i, j => (ops[i]?).any fun o => (o.after.any fun e => Region.binds md e && e.on == j) || (o.after.any fun e => Region.binds md e && reach md ops f e.on j)
def storesWait (md : Region.Mode) (ops : Array Oper) (n : Nat) : Bool := (List.range ops.size).all fun i => decide (i < n) || (List.range n).all fun j => reach md ops 6 i j
def Closed (md : Region.Mode) (ops : Array Oper) (L : Array Bool) : Prop := ∀ j o, ops[j]? = some o → L.getD j false = true → ∀ e ∈ o.after, Region.binds md e = true → L.getD e.on false = true
theorem reach_listed {md : Region.Mode} {ops : Array Oper} {L : Array Bool} (hc : Closed md ops L) : ∀ (f i : Nat) (o : Oper) (j : Nat), ops[i]? = some o → (∀ e ∈ o.after, Region.binds md e = true → L.getD e.on false = true) → reach md ops f i j = true → L.getD j false = true
  | 0, _, _, _, _, _, h => by cases h
  | f + 1, i, o, j, ho, hall, h => by
    simp only [reach, ho, Option.any_some, Bool.or_eq_true] at h
    rcases h with h | h
    · obtain ⟨e, he, hb⟩ := Array.any_eq_true'.1 h
      simp only [Bool.and_eq_true, beq_iff_eq] at hb
      rw [← hb.2]; exact hall e he hb.1
    · obtain ⟨e, he, hb⟩ := Array.any_eq_true'.1 h
      simp only [Bool.and_eq_true] at hb
      have hl := hall e he hb.1
      cases hoe : ops[e.on]? with
      | none =>
        exfalso
        have h2 := hb.2
        cases f with
        | zero => cases h2
        | succ f => simp [reach, hoe] at h2
      | some o' => exact reach_listed hc f e.on o' j hoe (hc e.on o' hoe hl) hb.2
theorem getD_put {a : Act} {ds : List Tmp} {vs : List Value} {d : Tmp} {v : Value} (hd : d ∉ ds) : putAll (a.put (some d) v) ds vs = (putAll a ds vs).put (some d) v := by
  induction ds generalizing a vs with
  | nil => rfl
  | cons d' ds ih =>
    cases vs with
    | nil => rfl
    | cons v' vs =>
      simp only [putAll]
      have hne : d' ≠ d := fun e => hd (by simp [e])
      rw [Act.put_comm a v v' (x := some d) (y := some d') (by intro x hx hy; cases hx; cases hy; exact hne rfl)]
      exact ih (fun h => hd (by simp [h]))
theorem putAll_set {a : Act} {ds : List Tmp} {vs : List Value} {i : Nat} {d : Tmp} {v : Value} (hn : ds.Nodup) (hi : ds[i]? = some d) (hl : vs.length = ds.length) : (putAll a ds vs).put (some d) v = putAll a ds (vs.set i v) := by
  induction ds generalizing a vs i with
  | nil => simp at hi
  | cons d' ds ih =>
    cases vs with
    | nil => simp at hl
    | cons v' vs =>
      rw [List.nodup_cons] at hn
      cases i with
      | zero =>
        simp at hi; subst hi
        simp only [putAll, List.set_cons_zero]
        rw [← getD_put hn.1]
        congr 1
        unfold Act.put
        simp [Array.setIfInBounds_setIfInBounds]
      | succ i =>
        simp only [putAll, List.set_cons_succ]
        exact ih hn.2 (by simpa using hi) (by simpa using hl)

def dstsAre (ops : Array Oper) (n : Nat) (ds : List Tmp) : Bool := (List.range n).all fun i => (ops[i]?).all fun o => o.dst == ds[i]?
theorem getD_set_list {l : List Value} {i j : Nat} {v : Value} (h : i ≠ j) : (l.set i v).getD j undef = l.getD j undef := by
  simp [List.getD, List.getElem?_set_ne h]
theorem getD_set_list_self {l : List Value} {i : Nat} {v : Value} (h : i < l.length) : (l.set i v).getD i undef = v := by
  simp [List.getD, h]

theorem wpAny_facts {P : Program} {ops : Array Oper} {Q : Exit → Act → World → Prop} {a0 : Act} {w0 : World} (n s : Nat) (hsize : ops.size = n + s) (ds : List Tmp) (f : Nat → SFact) (al : List Nat)
    (hd : edgesDown .any ops = true) (hsw : storesWait .any ops n = true) (hdn : ds.Nodup) (hlen : ds.length = n) (hds : dstsAre ops n ds = true)
    (hal : ∀ i ∈ al, ∀ v w, (f i).P v w → ∃ g, v = .pointer (some ⟨g, 0, none⟩) ∧ g < w.heap.size)
    (hstep : ∀ i o, i < n → ops[i]? = some o → ∀ vs w, vs.length = n → Below w0.heap.size w0 w → (∀ e ∈ o.after, Region.binds .any e = true → (f e.on).P (vs.getD e.on undef) w) →
      ∀ K : Act → World → Prop, Shut (∀ v w', (f i).P v w' → Below w.heap.size w w' → (i ∈ al → v = .pointer (some ⟨w.heap.size, 0, none⟩)) → K ((putAll a0 ds vs).put o.dst v) w') →
        if Region.wanted o (yielded ops (putAll a0 ds vs).tmps) = true then Oper.wp P o (putAll a0 ds vs) w K Q else K ((putAll a0 ds vs).put o.dst undef) w)
    (hend : ∀ vs w, vs.length = n → Below w0.heap.size w0 w → (∀ i, i < n → (f i).P (vs.getD i undef) w) → (∀ i ∈ al, ∀ j ∈ al, i ≠ j → vs.getD i undef ≠ vs.getD j undef) →
      wpAny P .any ops Q s ((List.replicate n true ++ List.replicate s false).toArray) (putAll a0 ds vs) w) :
    ∀ (c : Nat) (L : Array Bool) (vs : List Value) (w : World), (L.toList.take n).count false = c → L.size = n + s → (∀ j, n ≤ j → j < n + s → L.getD j true = false) → Closed .any ops L → vs.length = n → Below w0.heap.size w0 w →
      (∀ i, i < n → L.getD i false = true → (f i).P (vs.getD i undef) w) → (∀ i ∈ al, ∀ j ∈ al, i < n → j < n → i ≠ j → L.getD i false = true → L.getD j false = true → vs.getD i undef ≠ vs.getD j undef) →
      (∀ i ∈ al, i < n) → wpAny P .any ops Q (c + s) L (putAll a0 ds vs) w := by
  intro c
  induction c with
  | zero =>
    intro L vs w hc hs hst hcl hvl hb hf hdist haln
    have hall : ∀ i, i < n → L.getD i false = true := fun i hi => by
      have hil : i < L.size := by omega
      cases hb : L[i] with
      | true => simp [Array.getD, hil, hb]
      | false =>
        exfalso
        have hmem : false ∈ L.toList.take n := by
          rw [List.mem_take_iff_getElem]
          exact ⟨i, by simp; omega, by simpa using hb⟩
        have := List.count_pos_iff.2 hmem
        omega
    have hL : L = (List.replicate n true ++ List.replicate s false).toArray := by
      apply Array.ext
      · simp [hs]
      · intro i hi hi2
        by_cases h : i < n
        · have := hall i h
          simp only [Array.getD, hi] at this
          simp [h]
          simpa using this
        · have := hst i (by omega) (by omega)
          simp only [Array.getD, hi] at this
          simp [List.getElem_append, h]
          simpa using this
    rw [Nat.zero_add, hL]
    exact hend vs w hvl hb (fun i hi => hf i hi (hall i hi)) (fun i hi j hj hne => hdist i hi j hj (haln i hi) (haln j hj) hne (hall i (haln i hi)) (hall j (haln j hj)))
  | succ c ih =>
    intro L vs w hc hs hst hcl hvl hb hf hdist haln
    have hnot : ¬ ∀ i, i < n → L.getD i false = true := fun hall => by
      have : (L.toList.take n).count false = 0 := by
        rw [List.count_eq_zero]
        intro hmem
        rw [List.mem_take_iff_getElem] at hmem
        obtain ⟨i, hi, hif⟩ := hmem
        have hi' : i < L.size := by simp at hi; omega
        have := hall i (by simp at hi; omega)
        have h2 : L.getD i false = L[i] := by simp [Array.getD, hi']
        rw [h2] at this
        rw [Array.getElem_toList] at hif
        rw [hif] at this
        cases this
      omega
    rw [show c + 1 + s = (c + s) + 1 by omega]
    refine ⟨fun hr => ?_, fun i hi => ?_⟩
    · exfalso
      apply hnot
      intro i hi
      have := all_listed hd (by rw [hs, hsize]) hr i (by omega)
      have hil : i < L.size := by omega
      simpa [Array.getD, hil] using this
    · obtain ⟨hun, o, ho, hall⟩ := mem_ready.1 hi
      have hio : i < ops.size := (Array.getElem?_eq_some_iff.1 ho).1
      have hil : i < L.size := by omega
      have hin : i < n := by
        rcases Nat.lt_or_ge i n with h | h
        · exact h
        · exfalso
          apply hnot
          intro j hj
          have h1 := List.all_eq_true.1 hsw i (by simpa using hio)
          simp only [Bool.or_eq_true, decide_eq_true_eq] at h1
          rcases h1 with h1 | h1
          · omega
          · exact reach_listed hcl 6 i o j ho hall (List.all_eq_true.1 h1 j (by simpa using hj))
      have hdst : o.dst = ds[i]? := by
        have h1 := List.all_eq_true.1 hds i (by simpa using hin)
        rw [ho] at h1
        simpa using h1
      have hdi : ds[i]? = some (ds[i]'(by omega)) := by simp
      refine wpOp_step ho (fun K hK => hstep i o hin ho vs w hvl hb (fun e he hbd => ?_) K (fun v w' hv hb' hp => ?_))
      · have hl := hall e he hbd
        have hlt : e.on < n := by
          rcases Nat.lt_or_ge e.on n with h | h
          · exact h
          · exfalso
            rcases Nat.lt_or_ge e.on (n + s) with h2 | h2
            · have := hst e.on h h2
              have hl2 : e.on < L.size := by omega
              simp only [Array.getD, hl2] at this hl
              simp at this hl
              rw [this] at hl; cases hl
            · have : ¬ e.on < L.size := by omega
              simp [Array.getD, this] at hl
        exact hf e.on hlt hl
      · apply hK
        rw [hdst, hdi, putAll_set hdn hdi (by omega)]
        have hset : ∀ j, i ≠ j → (L.setIfInBounds i true).getD j false = L.getD j false := fun j h => getD_set_ne false h
        refine ih (L.setIfInBounds i true) (vs.set i v) w' ?_ (by simpa using hs) ?_ ?_ (by simpa using hvl) (hb.trans (hb'.mono hb.size)) ?_ ?_ haln
        · have hf' : (L.toList.take n)[i]'(by simp; omega) = false := by
            simp only [List.getElem_take]
            simpa [Array.getD, hil] using hun
          have := count_false_set (L.toList.take n) i (by simp; omega) hf'
          rw [Array.toList_setIfInBounds, ← List.take_set] at *
          omega
        · intro j hj hj2
          rw [getD_set_ne true (by omega)]
          exact hst j hj hj2
        · intro j o' hjo hjl e he hbd
          by_cases hji : i = j
          · subst hji
            rw [ho] at hjo
            cases hjo
            exact getD_set_true (hall e he hbd)
          · rw [hset j hji] at hjl
            exact getD_set_true (hcl j o' hjo hjl e he hbd)
        · intro j hj hjl
          by_cases hji : i = j
          · subst hji
            rw [getD_set_list_self (by omega)]
            exact hv
          · rw [hset j hji] at hjl
            rw [getD_set_list hji]
            exact (f j).st _ _ _ (hf j hj hjl) hb'
        · intro j hj k hk hjn hkn hjk hjl hkl
          have old : ∀ x, x ∈ al → x < n → i ≠ x → (L.setIfInBounds i true).getD x false = true → vs.getD x undef ≠ .pointer (some ⟨w.heap.size, 0, none⟩) := fun x hx hxn hix hxl => by
            rw [hset x hix] at hxl
            obtain ⟨g, hg, hgl⟩ := hal x hx _ _ (hf x hxn hxl)
            rw [hg]
            intro e
            injection e with e
            injection e with e
            injection e with e
            omega
          by_cases hji : i = j
          · subst hji
            rw [getD_set_list_self (by omega), getD_set_list hjk, hp hj]
            exact (old k hk hkn hjk hkl).symm
          · by_cases hki : i = k
            · subst hki
              rw [getD_set_list_self (by omega), getD_set_list hji, hp hk]
              exact old j hj hjn hji hjl
            · rw [getD_set_list hji, getD_set_list hki]
              rw [hset j hji] at hjl
              rw [hset k hki] at hkl
              exact hdist j hj k hk hjn hkn hjk hjl hkl

theorem wp_region_facts {P : Program} {ops : Array Oper} {Q : Exit → Act → World → Prop} {id : Nat} {a0 : Act} {w0 : World} (n s : Nat) (ds : List Tmp) (vs0 : List Value) (f : Nat → SFact) (al : List Nat) (hm : P.follows .mixedOrders = true)
    (hsize : ops.size = n + s) (hd : edgesDown .any ops = true) (hsw : storesWait .any ops n = true) (hdn : ds.Nodup) (hlen : ds.length = n) (hds : dstsAre ops n ds = true) (hv0 : vs0.length = n) (haln : ∀ i ∈ al, i < n)
    (he : a0 = putAll a0 ds vs0) (hal : ∀ i ∈ al, ∀ v w, (f i).P v w → ∃ g, v = .pointer (some ⟨g, 0, none⟩) ∧ g < w.heap.size)
    (hstep : ∀ i o, i < n → ops[i]? = some o → ∀ vs w, vs.length = n → Below w0.heap.size w0 w → (∀ e ∈ o.after, Region.binds .any e = true → (f e.on).P (vs.getD e.on undef) w) →
      ∀ K : Act → World → Prop, Shut (∀ v w', (f i).P v w' → Below w.heap.size w w' → (i ∈ al → v = .pointer (some ⟨w.heap.size, 0, none⟩)) → K ((putAll a0 ds vs).put o.dst v) w') →
        if Region.wanted o (yielded ops (putAll a0 ds vs).tmps) = true then Oper.wp P o (putAll a0 ds vs) w K Q else K ((putAll a0 ds vs).put o.dst undef) w)
    (hend : ∀ vs w, vs.length = n → Below w0.heap.size w0 w → (∀ i, i < n → (f i).P (vs.getD i undef) w) → (∀ i ∈ al, ∀ j ∈ al, i ≠ j → vs.getD i undef ≠ vs.getD j undef) →
      wpAny P .any ops Q s ((List.replicate n true ++ List.replicate s false).toArray) (putAll a0 ds vs) w) : (Code.region id ops true).wp P Q a0 w0 := by
  refine wp_region_any hm ?_
  have := wpAny_facts (a0 := a0) (w0 := w0) n s hsize ds f al hd hsw hdn hlen hds hal hstep hend n (Array.replicate ops.size false) vs0 w0.drew
    (by rw [hsize]; simp [List.take_replicate, Nat.min_eq_left (Nat.le_add_right n s)]) (by simp [hsize]) (by intro j hj hj2; simp [Array.getD, hsize, hj2]) (by intro j o _ h; simp [Array.getD] at h) hv0 ((Below.refl _ _).drew)
    (by intro i _ h; simp [Array.getD] at h) (by intro i _ j _ _ _ _ h; simp [Array.getD] at h) haln
  rw [← he, ← hsize] at this
  exact this
theorem wpAny_one {P : Program} {ops : Array Oper} {Q : Exit → Act → World → Prop} {md : Region.Mode} {i fuel : Nat} {o : Oper} {listed : Array Bool} {a : Act} {w : World} (hr : Region.ready md ops listed = [i]) (ho : ops[i]? = some o)
    (h : ∀ K : Act → World → Prop, Shut (∀ a w, wpAny P md ops Q fuel (listed.setIfInBounds i true) a w → K a w) → if Region.wanted o (yielded ops a.tmps) = true then Oper.wp P o a w K Q else K (a.put o.dst undef) w) : wpAny P md ops Q (fuel + 1) listed a w := by
  refine ⟨fun h0 => (by rw [hr] at h0; cases h0), ?_⟩
  rw [hr]
  intro j hj
  obtain rfl : j = i := by simpa using hj
  exact wpOp_step ho (fun K hK => h K hK)
end Go.Proofs.YtnfohbpgnbfmeaaGreatDoor
/- Lists of so many values. -/
namespace Go.Proofs.YtnfohbpgnbfmeaaGreatDoor

theorem vlen6 {vs : List Value} (h : vs.length = 6) : ∃ v0 v1 v2 v3 v4 v5, vs = [v0, v1, v2, v3, v4, v5] := by
  match vs, h with
  | [v0, v1, v2, v3, v4, v5], _ => exact ⟨v0, v1, v2, v3, v4, v5, rfl⟩
theorem vlen7 {vs : List Value} (h : vs.length = 7) : ∃ v0 v1 v2 v3 v4 v5 v6, vs = [v0, v1, v2, v3, v4, v5, v6] := by
  match vs, h with
  | [v0, v1, v2, v3, v4, v5, v6], _ => exact ⟨v0, v1, v2, v3, v4, v5, v6, rfl⟩
theorem vlen9 {vs : List Value} (h : vs.length = 9) : ∃ v0 v1 v2 v3 v4 v5 v6 v7 v8, vs = [v0, v1, v2, v3, v4, v5, v6, v7, v8] := by
  match vs, h with
  | [v0, v1, v2, v3, v4, v5, v6, v7, v8], _ => exact ⟨v0, v1, v2, v3, v4, v5, v6, v7, v8, rfl⟩
theorem vlen10 {vs : List Value} (h : vs.length = 10) : ∃ v0 v1 v2 v3 v4 v5 v6 v7 v8 v9, vs = [v0, v1, v2, v3, v4, v5, v6, v7, v8, v9] := by
  match vs, h with
  | [v0, v1, v2, v3, v4, v5, v6, v7, v8, v9], _ => exact ⟨v0, v1, v2, v3, v4, v5, v6, v7, v8, v9, rfl⟩
theorem vlen11 {vs : List Value} (h : vs.length = 11) : ∃ v0 v1 v2 v3 v4 v5 v6 v7 v8 v9 v10, vs = [v0, v1, v2, v3, v4, v5, v6, v7, v8, v9, v10] := by
  match vs, h with
  | [v0, v1, v2, v3, v4, v5, v6, v7, v8, v9, v10], _ => exact ⟨v0, v1, v2, v3, v4, v5, v6, v7, v8, v9, v10, rfl⟩
theorem vlen12 {vs : List Value} (h : vs.length = 12) : ∃ v0 v1 v2 v3 v4 v5 v6 v7 v8 v9 v10 v11, vs = [v0, v1, v2, v3, v4, v5, v6, v7, v8, v9, v10, v11] := by
  match vs, h with
  | [v0, v1, v2, v3, v4, v5, v6, v7, v8, v9, v10, v11], _ => exact ⟨v0, v1, v2, v3, v4, v5, v6, v7, v8, v9, v10, v11, rfl⟩
theorem vlen13 {vs : List Value} (h : vs.length = 13) : ∃ v0 v1 v2 v3 v4 v5 v6 v7 v8 v9 v10 v11 v12, vs = [v0, v1, v2, v3, v4, v5, v6, v7, v8, v9, v10, v11, v12] := by
  match vs, h with
  | [v0, v1, v2, v3, v4, v5, v6, v7, v8, v9, v10, v11, v12], _ => exact ⟨v0, v1, v2, v3, v4, v5, v6, v7, v8, v9, v10, v11, v12, rfl⟩
theorem vlen18 {vs : List Value} (h : vs.length = 18) : ∃ v0 v1 v2 v3 v4 v5 v6 v7 v8 v9 v10 v11 v12 v13 v14 v15 v16 v17, vs = [v0, v1, v2, v3, v4, v5, v6, v7, v8, v9, v10, v11, v12, v13, v14, v15, v16, v17] := by
  match vs, h with
  | [v0, v1, v2, v3, v4, v5, v6, v7, v8, v9, v10, v11, v12, v13, v14, v15, v16, v17], _ => exact ⟨v0, v1, v2, v3, v4, v5, v6, v7, v8, v9, v10, v11, v12, v13, v14, v15, v16, v17, rfl⟩
theorem vlen20 {vs : List Value} (h : vs.length = 20) : ∃ v0 v1 v2 v3 v4 v5 v6 v7 v8 v9 v10 v11 v12 v13 v14 v15 v16 v17 v18 v19, vs = [v0, v1, v2, v3, v4, v5, v6, v7, v8, v9, v10, v11, v12, v13, v14, v15, v16, v17, v18, v19] := by
  match vs, h with
  | [v0, v1, v2, v3, v4, v5, v6, v7, v8, v9, v10, v11, v12, v13, v14, v15, v16, v17, v18, v19], _ => exact ⟨v0, v1, v2, v3, v4, v5, v6, v7, v8, v9, v10, v11, v12, v13, v14, v15, v16, v17, v18, v19, rfl⟩
end Go.Proofs.YtnfohbpgnbfmeaaGreatDoor
/- Steps of a drawn region: an append to a row of the call's own, or to one that was there. -/
namespace Go.Proofs.YtnfohbpgnbfmeaaGreatDoor
open Go.RowKit Big

/-- 'append(v, x...)', v a row of the call's own, as one step of a region -/
theorem step_append {P : Program} {w : World} {o : Oper} {a : Act} {K : Act → World → Prop} {Q : Exit → Act → World → Prop} (s x : Operand) (t : TypeId)
    (ho : o.op = .call { callee := .builtin .append, args := #[s, x], argTypes := #[t, t] })
    (base : Nat) (e : TypeId) (i : TypeInfo) (z : Value) (size bytes : Nat) (ht : P.underlying t = some (.slice e)) (hi : P.info? e = some i) (hz : i.zero = some z)
    (hsize : i.size = size) (hby : i.bytes = bytes) (hzs : z.cells.size = size) (hsz : 0 < size)
    (v : Value) (n : Nat) (xs : List Value) (hs : a.eval s = v) (hown : w.ownsRow base e size v n xs)
    (ad : Addr) (m c : Nat) (news : List Value) (hx : a.eval x = .slice (some ad) m c) (hl : news.length = m * size) (hnews : ∀ j u, news[j]? = some u → w.cell? (ad.add j) = some u) (h1 : ∀ u ∈ news, u.oneCell' = true)
    (h63 : n + m ≤ maxLen) (hbytes : (n + m) * bytes ≤ 140737488355328) (hbase : base ≤ w.heap.size)
    (h : ∀ v' w', w'.ownsRow base e size v' (n + m) (xs ++ news) → w.grownBy w' v.ownBlock → (v'.ownBlock = v.ownBlock ∨ v'.ownBlock = some w.heap.size) → K (a.put o.dst v') w') :
    Oper.wp P o a w K Q := by
  obtain ⟨v', w', hr, h2, h3, -, h4⟩ := run_append_own_at (P := P) w base t o.type e i z size bytes ht hi hz hsize hby hzs hsz v n xs hown ad m c news hl hnews h1 h63 hbytes hbase
  unfold Oper.wp
  simp [execOp, ho, resolve, invoke, builtin, hs, hx, hr, Result.andThen]
  exact h v' w' h2 h3 h4

end Go.Proofs.YtnfohbpgnbfmeaaGreatDoor
/-
  DERIVED: THE SHELF's CONTRACTS AT THIS DUMP, IN PLAIN WORDS (tools/lay-plain.mjs out of 'TryzShelf.lean', which tools/lay-shelf.mjs wrote): THE SAME DECLARATIONS UNDER THE SAME NAMES: 'import', 'namespace', 'open', 'def', 'theorem' AND NOTHING ELSE: no command of the shelf's: FOR A HAND-IN. Each laying: the table of numbers ('.._ren') and one theorem, a field a fact of the dump's own or the kernel's comparison; each contract: ONE APPLICATION.
-/
namespace Go.Proofs
open Go.Shelf
def Tryz.lays169_ren : Go.Shelf.Ren := ⟨fun | 169 => 92 | n => n, fun | 70 => 127 | 9 => 9 | 0 => 0 | 72 => 129 | 37 => 115 | 127 => 151 | 3 => 3 | 5 => 5 | n => n, fun | n => n⟩
theorem Tryz.lays169 : Go.Proofs.Lays.n169 Tryz.prog Tryz.lays169_ren := {
  mixed := by kernel_rfl
  f169 := Tryz.func92.trans (congrArg some (by kernel_rfl))
  t0 := Tryz.underlying0
  a0 := Tryz.isAgg0
  z0 := Tryz.sizeOf0
  v0 := Tryz.zeroValue0
  t3 := Tryz.underlying3
  a3 := Tryz.isAgg3
  z3 := Tryz.sizeOf3
  v3 := Tryz.zeroValue3
  t9 := Tryz.underlying9
  a9 := Tryz.isAgg9
  z9 := Tryz.sizeOf9
  v9 := Tryz.zeroValue9
  t37 := Tryz.underlying115
  a37 := Tryz.isAgg115
  z37 := Tryz.sizeOf115
  v37 := Tryz.zeroValue115
  t70 := Tryz.underlying127
  a70 := Tryz.isAgg127
  z70 := Tryz.sizeOf127
  v70 := Tryz.zeroValue127
  t72 := Tryz.underlying129
  a72 := Tryz.isAgg129
  z72 := Tryz.sizeOf129
  v72 := Tryz.zeroValue129
  t127 := Tryz.underlying151
  a127 := Tryz.isAgg151
  z127 := Tryz.sizeOf151
  v127 := Tryz.zeroValue151 }
theorem Tryz.Builder_Extra_169 : Builder.Extra Tryz.prog Tryz.lays169_ren := {
  sizeBuilder := by kernel_rfl
  liesBuilder := by kernel_rfl
  t5 := Tryz.underlying5
  a5 := Tryz.isAgg5
  z5 := Tryz.sizeOf5
  v5 := Tryz.zeroValue5
  infoByte := by kernel_rfl
  cellsByte := by kernel_rfl
  sizeByte := by kernel_rfl
  neB5 := by decide }
open Go.RowKit in
/-- (*strings.Builder).String: "String returns the accumulated string.": WHATEVER THE BUILDER HOLDS. (LAID: no walk: one application.) -/
theorem Tryz.Builder_String_any (B b : Nat) (l : List UInt8) (w : World) (h : Lib.IsBuilder 129 5 B b (Lib.byteCells l) w) (hBw : B ≤ w.heap.size) :
    Calls Tryz.prog 92 #[.pointer (some ⟨b, 0, none⟩)] w fun e w' => e = .returned (.string ⟨l.toArray⟩) ∧ Below B w w' := Any.Builder_String_any Tryz.lays169 Tryz.Builder_Extra_169 B b l w h hBw
def Tryz.lays128_ren : Go.Shelf.Ren := ⟨fun | 128 => 128 | n => n, fun | 51 => 157 | 3 => 3 | 4 => 4 | 46 => 119 | 5 => 5 | 9 => 9 | n => n, fun | n => n⟩
def Tryz.lays125_ren : Go.Shelf.Ren := ⟨fun | 125 => 106 | 128 => 128 | 129 => 129 | n => n, fun | 46 => 119 | 3 => 3 | 51 => 157 | 53 => 84 | 4 => 4 | 5 => 5 | 9 => 9 | n => n, fun | n => n⟩
def Tryz.lays133_ren : Go.Shelf.Ren := ⟨fun | 133 => 138 | 128 => 128 | n => n, fun | 51 => 157 | 3 => 3 | 4 => 4 | 46 => 119 | 5 => 5 | 9 => 9 | n => n, fun | n => n⟩
theorem Tryz.lays133 : Go.Proofs.Lays.n133 Tryz.prog Tryz.lays133_ren := {
  mixed := by kernel_rfl
  f128 := Tryz.func128.trans (congrArg some (by kernel_rfl))
  f133 := Tryz.func138.trans (congrArg some (by kernel_rfl))
  t3 := Tryz.underlying3
  a3 := Tryz.isAgg3
  z3 := Tryz.sizeOf3
  v3 := Tryz.zeroValue3
  t4 := Tryz.underlying4
  a4 := Tryz.isAgg4
  z4 := Tryz.sizeOf4
  v4 := Tryz.zeroValue4
  t5 := Tryz.underlying5
  a5 := Tryz.isAgg5
  z5 := Tryz.sizeOf5
  v5 := Tryz.zeroValue5
  t9 := Tryz.underlying9
  a9 := Tryz.isAgg9
  z9 := Tryz.sizeOf9
  v9 := Tryz.zeroValue9
  t46 := Tryz.underlying119
  a46 := Tryz.isAgg119
  z46 := Tryz.sizeOf119
  v46 := Tryz.zeroValue119
  t51 := Tryz.underlying157
  a51 := Tryz.isAgg157
  z51 := Tryz.sizeOf157
  v51 := Tryz.zeroValue157 }
/-- bits.LeadingZeros32: "LeadingZeros32 returns the number of leading zero bits in x; the result is 32 for x == 0.": IT RETURNS '32 - Lib.bitLen x'; the world is as it was. ITS CALLEE bits.Len32 IS MET BY ITS OWN CONTRACT OFF THE SHELF (lay that first): entered in place it sends the kernel out of memory. (LAID: no walk: one application.) -/
theorem Tryz.bits_LeadingZeros32 (x : Int) (w : World) (h0 : 0 ≤ x) (h1 : x ≤ 4294967295) :
    Calls Tryz.prog 138 #[.int .u32 x] w fun e w' => e = .returned (.int .i64 (32 - (Lib.bitLen x.toNat : Int))) ∧ w' = w := Any.bits_LeadingZeros32 Tryz.lays133 x w h0 h1
def Tryz.lays215_ren : Go.Shelf.Ren := ⟨fun | 215 => 117 | n => n, fun | 3 => 3 | 4 => 4 | n => n, fun | n => n⟩
def Tryz.lays122_ren : Go.Shelf.Ren := ⟨fun | 122 => 101 | 215 => 117 | n => n, fun | 3 => 3 | 4 => 4 | n => n, fun | n => n⟩
def Tryz.lays129_ren : Go.Shelf.Ren := ⟨fun | 129 => 129 | n => n, fun | 53 => 84 | 3 => 3 | 4 => 4 | 46 => 119 | 5 => 5 | 9 => 9 | n => n, fun | n => n⟩
def Tryz.lays317_ren : Go.Shelf.Ren := ⟨fun | 317 => 132 | n => n, fun | 3 => 3 | 46 => 119 | n => n, fun | n => n⟩
def Tryz.lays318_ren : Go.Shelf.Ren := ⟨fun | 318 => 133 | n => n, fun | 3 => 3 | 4 => 4 | n => n, fun | n => n⟩
def Tryz.lays283_ren : Go.Shelf.Ren := ⟨fun | 283 => 109 | n => n, fun | 3 => 3 | 9 => 9 | 4 => 4 | n => n, fun | n => n⟩
def Tryz.laysM284_ren : Go.Shelf.Ren := ⟨fun | 284 => 110 | 129 => 129 | 317 => 132 | 318 => 133 | n => n, fun | 53 => 84 | 3 => 3 | 212 => 176 | 0 => 0 | 4 => 4 | 46 => 119 | 5 => 5 | 9 => 9 | n => n, fun | 17 => 0 | n => n⟩
def Tryz.lays285_ren : Go.Shelf.Ren := ⟨fun | 285 => 111 | n => n, fun | 37 => 115 | 53 => 84 | 3 => 3 | 4 => 4 | 51 => 157 | 9 => 9 | 5 => 5 | 0 => 0 | n => n, fun | n => n⟩
def Tryz.laysM246_ren : Go.Shelf.Ren := ⟨fun | 246 => 131 | 283 => 109 | 284 => 110 | 285 => 111 | 286 => 112 | 129 => 129 | 317 => 132 | 318 => 133 | 319 => 134 | 320 => 135 | 337 => 147 | 338 => 148 | n => n, fun | 2 => 2 | 3 => 3 | 9 => 9 | 4 => 4 | 171 => 152 | 0 => 0 | 53 => 84 | 37 => 115 | 5 => 5 | 173 => 155 | 212 => 176 | 51 => 157 | 20 => 20 | 213 => 177 | 46 => 119 | 232 => 194 | 233 => 195 | n => n, fun | 17 => 0 | 18 => 1 | 19 => 2 | n => n⟩
def Tryz.lays246_ren : Go.Shelf.Ren := ⟨fun | 246 => 131 | 283 => 109 | 284 => 110 | 285 => 111 | 286 => 112 | 129 => 129 | 317 => 132 | 318 => 133 | 319 => 134 | 320 => 135 | 337 => 147 | 338 => 148 | n => n, fun | 2 => 2 | 3 => 3 | 9 => 9 | 4 => 4 | 171 => 152 | 0 => 0 | 53 => 84 | 37 => 115 | 5 => 5 | 173 => 155 | 212 => 176 | 51 => 157 | 20 => 20 | 213 => 177 | 46 => 119 | 232 => 194 | 233 => 195 | n => n, fun | 17 => 0 | 18 => 1 | 19 => 2 | n => n⟩
def Tryz.laysM243_ren : Go.Shelf.Ren := ⟨fun | 243 => 108 | 246 => 131 | 283 => 109 | 284 => 110 | 285 => 111 | 286 => 112 | 129 => 129 | 317 => 132 | 318 => 133 | 319 => 134 | 320 => 135 | 337 => 147 | 338 => 148 | n => n, fun | 3 => 3 | 9 => 9 | 2 => 2 | 4 => 4 | 171 => 152 | 0 => 0 | 53 => 84 | 37 => 115 | 5 => 5 | 173 => 155 | 212 => 176 | 51 => 157 | 20 => 20 | 213 => 177 | 46 => 119 | 232 => 194 | 233 => 195 | n => n, fun | 17 => 0 | 18 => 1 | 19 => 2 | n => n⟩
theorem Tryz.laysM243 : Go.Proofs.LaysM.n243 Tryz.prog Tryz.laysM243_ren := {
  mixed := by kernel_rfl
  f129 := Tryz.func129.trans (congrArg some (by kernel_rfl))
  f243 := Tryz.func108.trans (congrArg some (by kernel_rfl))
  f246 := Tryz.func131.trans (congrArg some (by kernel_rfl))
  f283 := Tryz.func109.trans (congrArg some (by kernel_rfl))
  f284 := Tryz.func110.trans (congrArg some (by kernel_rfl))
  f285 := Tryz.func111.trans (congrArg some (by kernel_rfl))
  f286 := Tryz.func112.trans (congrArg some (by kernel_rfl))
  f317 := Tryz.func132.trans (congrArg some (by kernel_rfl))
  f318 := Tryz.func133.trans (congrArg some (by kernel_rfl))
  f319 := Tryz.func134.trans (congrArg some (by kernel_rfl))
  f320 := Tryz.func135.trans (congrArg some (by kernel_rfl))
  f337 := Tryz.func147.trans (congrArg some (by kernel_rfl))
  f338 := Tryz.func148.trans (congrArg some (by kernel_rfl))
  t0 := Tryz.underlying0
  a0 := Tryz.isAgg0
  z0 := Tryz.sizeOf0
  v0 := Tryz.zeroValue0
  t2 := Tryz.underlying2
  a2 := Tryz.isAgg2
  z2 := Tryz.sizeOf2
  v2 := Tryz.zeroValue2
  t3 := Tryz.underlying3
  a3 := Tryz.isAgg3
  z3 := Tryz.sizeOf3
  v3 := Tryz.zeroValue3
  t4 := Tryz.underlying4
  a4 := Tryz.isAgg4
  z4 := Tryz.sizeOf4
  v4 := Tryz.zeroValue4
  t5 := Tryz.underlying5
  a5 := Tryz.isAgg5
  z5 := Tryz.sizeOf5
  v5 := Tryz.zeroValue5
  t9 := Tryz.underlying9
  a9 := Tryz.isAgg9
  z9 := Tryz.sizeOf9
  v9 := Tryz.zeroValue9
  t20 := Tryz.underlying20
  a20 := Tryz.isAgg20
  z20 := Tryz.sizeOf20
  v20 := Tryz.zeroValue20
  t37 := Tryz.underlying115
  a37 := Tryz.isAgg115
  z37 := Tryz.sizeOf115
  v37 := Tryz.zeroValue115
  t46 := Tryz.underlying119
  a46 := Tryz.isAgg119
  z46 := Tryz.sizeOf119
  v46 := Tryz.zeroValue119
  t51 := Tryz.underlying157
  a51 := Tryz.isAgg157
  z51 := Tryz.sizeOf157
  v51 := Tryz.zeroValue157
  t53 := Tryz.underlying84
  a53 := Tryz.isAgg84
  z53 := Tryz.sizeOf84
  v53 := Tryz.zeroValue84
  t171 := Tryz.underlying152
  a171 := Tryz.isAgg152
  z171 := Tryz.sizeOf152
  v171 := Tryz.zeroValue152
  t173 := Tryz.underlying155
  a173 := Tryz.isAgg155
  z173 := Tryz.sizeOf155
  v173 := Tryz.zeroValue155
  t212 := Tryz.underlying176
  a212 := Tryz.isAgg176
  z212 := Tryz.sizeOf176
  v212 := Tryz.zeroValue176
  t213 := Tryz.underlying177
  a213 := Tryz.isAgg177
  z213 := Tryz.sizeOf177
  t232 := Tryz.underlying194
  a232 := Tryz.isAgg194
  z232 := Tryz.sizeOf194
  v232 := Tryz.zeroValue194
  t233 := Tryz.underlying195
  a233 := Tryz.isAgg195
  z233 := Tryz.sizeOf195
  v233 := Tryz.zeroValue195
  g17 := by kernel_rfl
  g18 := by kernel_rfl
  g19 := by kernel_rfl
  i0 := by kernel_rfl
  i2 := by kernel_rfl
  i3 := by kernel_rfl
  i4 := by kernel_rfl
  i5 := by kernel_rfl
  i9 := by kernel_rfl
  i20 := by kernel_rfl
  i37 := by kernel_rfl
  i46 := by kernel_rfl
  i51 := by kernel_rfl
  i53 := by kernel_rfl
  i171 := by kernel_rfl
  i173 := by kernel_rfl
  i212 := by kernel_rfl
  i232 := by kernel_rfl
  i233 := by kernel_rfl
  m17 := by kernel_rfl
  m18 := by kernel_rfl
  m19 := by kernel_rfl }
open Go.RowKit Go.Sort Go.Lib in
/-- internal/strconv.Itoa: "Itoa is equivalent to FormatInt(int64(i), 10).": i's decimal numeral, for every int. (LAID: no walk: one application.) -/
theorem Tryz.internal_strconv_Itoa (n : Int) (h0 : -9223372036854775808 ≤ n) (h1 : n ≤ 9223372036854775807) (w : World) (htab : Lib.TabIs Tryz.prog w "internal/strconv.uint64pow10" .u64 Lib.pow10Tab) :
    Calls Tryz.prog 108 #[.int .i64 n] w fun e w' => e = .returned (.string ⟨(Lib.itoa n).toArray⟩) ∧ ∃ k os, w' = grow (w.drewN k) os := Any.internal_strconv_Itoa Tryz.laysM243 n h0 h1 w htab
def Tryz.lays243_ren : Go.Shelf.Ren := ⟨fun | 243 => 108 | 246 => 131 | 283 => 109 | 284 => 110 | 285 => 111 | 286 => 112 | 129 => 129 | 317 => 132 | 318 => 133 | 319 => 134 | 320 => 135 | 337 => 147 | 338 => 148 | n => n, fun | 3 => 3 | 9 => 9 | 2 => 2 | 4 => 4 | 171 => 152 | 0 => 0 | 53 => 84 | 37 => 115 | 5 => 5 | 173 => 155 | 212 => 176 | 51 => 157 | 20 => 20 | 213 => 177 | 46 => 119 | 232 => 194 | 233 => 195 | n => n, fun | 17 => 0 | 18 => 1 | 19 => 2 | n => n⟩
def Tryz.laysM171_ren : Go.Shelf.Ren := ⟨fun | 171 => 90 | 243 => 108 | 246 => 131 | 283 => 109 | 284 => 110 | 285 => 111 | 286 => 112 | 129 => 129 | 317 => 132 | 318 => 133 | 319 => 134 | 320 => 135 | 337 => 147 | 338 => 148 | n => n, fun | 3 => 3 | 9 => 9 | 2 => 2 | 4 => 4 | 171 => 152 | 0 => 0 | 53 => 84 | 37 => 115 | 5 => 5 | 173 => 155 | 212 => 176 | 51 => 157 | 20 => 20 | 213 => 177 | 46 => 119 | 232 => 194 | 233 => 195 | n => n, fun | 17 => 0 | 18 => 1 | 19 => 2 | n => n⟩
def Tryz.lays171_ren : Go.Shelf.Ren := ⟨fun | 171 => 90 | 243 => 108 | 246 => 131 | 283 => 109 | 284 => 110 | 285 => 111 | 286 => 112 | 129 => 129 | 317 => 132 | 318 => 133 | 319 => 134 | 320 => 135 | 337 => 147 | 338 => 148 | n => n, fun | 3 => 3 | 9 => 9 | 2 => 2 | 4 => 4 | 171 => 152 | 0 => 0 | 53 => 84 | 37 => 115 | 5 => 5 | 173 => 155 | 212 => 176 | 51 => 157 | 20 => 20 | 213 => 177 | 46 => 119 | 232 => 194 | 233 => 195 | n => n, fun | 17 => 0 | 18 => 1 | 19 => 2 | n => n⟩
def Tryz.laysM288_ren : Go.Shelf.Ren := ⟨fun | 288 => 93 | 283 => 109 | 284 => 110 | 285 => 111 | 286 => 112 | 129 => 129 | 317 => 132 | 318 => 133 | 319 => 134 | 320 => 135 | 337 => 147 | 338 => 148 | n => n, fun | 37 => 115 | 53 => 84 | 3 => 3 | 4 => 4 | 9 => 9 | 171 => 152 | 0 => 0 | 173 => 155 | 212 => 176 | 51 => 157 | 5 => 5 | 20 => 20 | 213 => 177 | 46 => 119 | 232 => 194 | 233 => 195 | n => n, fun | 17 => 0 | 18 => 1 | 19 => 2 | n => n⟩
theorem Tryz.laysM288 : Go.Proofs.LaysM.n288 Tryz.prog Tryz.laysM288_ren := {
  mixed := by kernel_rfl
  f129 := Tryz.func129.trans (congrArg some (by kernel_rfl))
  f283 := Tryz.func109.trans (congrArg some (by kernel_rfl))
  f284 := Tryz.func110.trans (congrArg some (by kernel_rfl))
  f285 := Tryz.func111.trans (congrArg some (by kernel_rfl))
  f286 := Tryz.func112.trans (congrArg some (by kernel_rfl))
  f288 := Tryz.func93.trans (congrArg some (by kernel_rfl))
  f317 := Tryz.func132.trans (congrArg some (by kernel_rfl))
  f318 := Tryz.func133.trans (congrArg some (by kernel_rfl))
  f319 := Tryz.func134.trans (congrArg some (by kernel_rfl))
  f320 := Tryz.func135.trans (congrArg some (by kernel_rfl))
  f337 := Tryz.func147.trans (congrArg some (by kernel_rfl))
  f338 := Tryz.func148.trans (congrArg some (by kernel_rfl))
  t0 := Tryz.underlying0
  a0 := Tryz.isAgg0
  z0 := Tryz.sizeOf0
  v0 := Tryz.zeroValue0
  t3 := Tryz.underlying3
  a3 := Tryz.isAgg3
  z3 := Tryz.sizeOf3
  v3 := Tryz.zeroValue3
  t4 := Tryz.underlying4
  a4 := Tryz.isAgg4
  z4 := Tryz.sizeOf4
  v4 := Tryz.zeroValue4
  t5 := Tryz.underlying5
  a5 := Tryz.isAgg5
  z5 := Tryz.sizeOf5
  v5 := Tryz.zeroValue5
  t9 := Tryz.underlying9
  a9 := Tryz.isAgg9
  z9 := Tryz.sizeOf9
  v9 := Tryz.zeroValue9
  t20 := Tryz.underlying20
  a20 := Tryz.isAgg20
  z20 := Tryz.sizeOf20
  v20 := Tryz.zeroValue20
  t37 := Tryz.underlying115
  a37 := Tryz.isAgg115
  z37 := Tryz.sizeOf115
  v37 := Tryz.zeroValue115
  t46 := Tryz.underlying119
  a46 := Tryz.isAgg119
  z46 := Tryz.sizeOf119
  v46 := Tryz.zeroValue119
  t51 := Tryz.underlying157
  a51 := Tryz.isAgg157
  z51 := Tryz.sizeOf157
  v51 := Tryz.zeroValue157
  t53 := Tryz.underlying84
  a53 := Tryz.isAgg84
  z53 := Tryz.sizeOf84
  v53 := Tryz.zeroValue84
  t171 := Tryz.underlying152
  a171 := Tryz.isAgg152
  z171 := Tryz.sizeOf152
  v171 := Tryz.zeroValue152
  t173 := Tryz.underlying155
  a173 := Tryz.isAgg155
  z173 := Tryz.sizeOf155
  v173 := Tryz.zeroValue155
  t212 := Tryz.underlying176
  a212 := Tryz.isAgg176
  z212 := Tryz.sizeOf176
  v212 := Tryz.zeroValue176
  t213 := Tryz.underlying177
  a213 := Tryz.isAgg177
  z213 := Tryz.sizeOf177
  t232 := Tryz.underlying194
  a232 := Tryz.isAgg194
  z232 := Tryz.sizeOf194
  v232 := Tryz.zeroValue194
  t233 := Tryz.underlying195
  a233 := Tryz.isAgg195
  z233 := Tryz.sizeOf195
  v233 := Tryz.zeroValue195
  g17 := by kernel_rfl
  g18 := by kernel_rfl
  g19 := by kernel_rfl
  i0 := by kernel_rfl
  i3 := by kernel_rfl
  i4 := by kernel_rfl
  i5 := by kernel_rfl
  i9 := by kernel_rfl
  i20 := by kernel_rfl
  i37 := by kernel_rfl
  i46 := by kernel_rfl
  i51 := by kernel_rfl
  i53 := by kernel_rfl
  i171 := by kernel_rfl
  i173 := by kernel_rfl
  i212 := by kernel_rfl
  i232 := by kernel_rfl
  i233 := by kernel_rfl
  m17 := by kernel_rfl
  m18 := by kernel_rfl
  m19 := by kernel_rfl }
open Go.RowKit Go.Sort Go.Lib in
/-- internal/strconv.AppendUint(dst, i, 10): the two contracts as one. NO WALK. (LAID: no walk: one application.) -/
theorem Tryz.internal_strconv_AppendUint_10 (B n u : Nat) (hu64 : u < 18446744073709551616) (sv : Value) (xs : List Value) (w : World) (hown : w.ownsRow B 5 1 sv n xs) (hBw : B ≤ w.heap.size) (hlim : n + 20 ≤ 140737488355328) (htab : Lib.TabIs Tryz.prog w "internal/strconv.uint64pow10" .u64 Lib.pow10Tab) :
    Calls Tryz.prog 93 #[sv, .int .u64 u, .int .i64 10] w fun e w' => ∃ v', e = .returned v' ∧ w'.ownsRow B 5 1 v' (n + (Lib.decDigits u).length) (xs ++ Lib.byteCells (Lib.decDigits u)) ∧ Below B w w' ∧ Lib.OthersKept 5 none w w' := Any.internal_strconv_AppendUint_10 Tryz.laysM288 B n u hu64 sv xs w hown hBw hlim htab
def Tryz.laysSlM5_f87_ren : Go.Shelf.Ren := ⟨fun | 5 => 87 | 8 => 106 | 7 => 105 | 19 => 128 | 20 => 129 | 10 => 119 | 11 => 120 | 12 => 121 | 13 => 122 | 14 => 123 | 15 => 124 | 16 => 125 | 17 => 126 | 18 => 127 | 30 => 142 | 31 => 143 | 32 => 144 | 33 => 145 | 34 => 146 | 35 => 117 | 40 => 152 | n => n, fun | 23 => 99 | 25 => 3 | 3 => 3 | 32 => 119 | 22 => 99 | 0 => 0 | 44 => 157 | 46 => 84 | 4 => 4 | 36 => 164 | 35 => 163 | 41 => 42 | 5 => 5 | 9 => 9 | 53 => 182 | 57 => 186 | 63 => 191 | 64 => 192 | n => n, fun | n => n⟩
theorem Tryz.laysSlM5_f87 : Go.Proofs.SlLaysM.n5 Tryz.prog Tryz.laysSlM5_f87_ren := {
  mixed := by kernel_rfl
  f5 := ⟨Tryz.f87.name, by decide, Tryz.func87.trans (congrArg some (by kernel_rfl))⟩
  f7 := ⟨Tryz.f105.name, by decide, Tryz.func105.trans (congrArg some (by kernel_rfl))⟩
  f8 := Tryz.func106.trans (congrArg some (by kernel_rfl))
  f10 := ⟨Tryz.f119.name, by decide, Tryz.func119.trans (congrArg some (by kernel_rfl))⟩
  f11 := ⟨Tryz.f120.name, by decide, Tryz.func120.trans (congrArg some (by kernel_rfl))⟩
  f12 := ⟨Tryz.f121.name, by decide, Tryz.func121.trans (congrArg some (by kernel_rfl))⟩
  f13 := ⟨Tryz.f122.name, by decide, Tryz.func122.trans (congrArg some (by kernel_rfl))⟩
  f14 := ⟨Tryz.f123.name, by decide, Tryz.func123.trans (congrArg some (by kernel_rfl))⟩
  f15 := ⟨Tryz.f124.name, by decide, Tryz.func124.trans (congrArg some (by kernel_rfl))⟩
  f16 := ⟨Tryz.f125.name, by decide, Tryz.func125.trans (congrArg some (by kernel_rfl))⟩
  f17 := ⟨Tryz.f126.name, by decide, Tryz.func126.trans (congrArg some (by kernel_rfl))⟩
  f18 := ⟨Tryz.f127.name, by decide, Tryz.func127.trans (congrArg some (by kernel_rfl))⟩
  f19 := Tryz.func128.trans (congrArg some (by kernel_rfl))
  f20 := Tryz.func129.trans (congrArg some (by kernel_rfl))
  f30 := ⟨Tryz.f142.name, by decide, Tryz.func142.trans (congrArg some (by kernel_rfl))⟩
  f31 := Tryz.func143.trans (congrArg some (by kernel_rfl))
  f32 := Tryz.func144.trans (congrArg some (by kernel_rfl))
  f33 := ⟨Tryz.f145.name, by decide, Tryz.func145.trans (congrArg some (by kernel_rfl))⟩
  f34 := ⟨Tryz.f146.name, by decide, Tryz.func146.trans (congrArg some (by kernel_rfl))⟩
  f35 := ⟨Tryz.f117.name, by decide, Tryz.func117.trans (congrArg some (by kernel_rfl))⟩
  f40 := ⟨Tryz.f152.name, by decide, Tryz.func152.trans (congrArg some (by kernel_rfl))⟩
  t0 := Tryz.underlying0
  a0 := Tryz.isAgg0
  z0 := Tryz.sizeOf0
  v0 := Tryz.zeroValue0
  t3 := Tryz.underlying3
  a3 := Tryz.isAgg3
  z3 := Tryz.sizeOf3
  v3 := Tryz.zeroValue3
  t4 := Tryz.underlying4
  a4 := Tryz.isAgg4
  z4 := Tryz.sizeOf4
  v4 := Tryz.zeroValue4
  t5 := Tryz.underlying5
  a5 := Tryz.isAgg5
  z5 := Tryz.sizeOf5
  v5 := Tryz.zeroValue5
  t9 := Tryz.underlying9
  a9 := Tryz.isAgg9
  z9 := Tryz.sizeOf9
  v9 := Tryz.zeroValue9
  t22 := Tryz.underlying99
  a22 := Tryz.isAgg99
  z22 := Tryz.sizeOf99
  v22 := Tryz.zeroValue99
  t23 := Tryz.underlying99
  a23 := Tryz.isAgg99
  z23 := Tryz.sizeOf99
  v23 := Tryz.zeroValue99
  t25 := Tryz.underlying3
  a25 := Tryz.isAgg3
  z25 := Tryz.sizeOf3
  v25 := Tryz.zeroValue3
  t32 := Tryz.underlying119
  a32 := Tryz.isAgg119
  z32 := Tryz.sizeOf119
  v32 := Tryz.zeroValue119
  t35 := Tryz.underlying163
  a35 := Tryz.isAgg163
  z35 := Tryz.sizeOf163
  v35 := Tryz.zeroValue163
  t36 := Tryz.underlying164
  a36 := Tryz.isAgg164
  z36 := Tryz.sizeOf164
  v36 := Tryz.zeroValue164
  t41 := Tryz.underlying42
  a41 := Tryz.isAgg42
  z41 := Tryz.sizeOf42
  v41 := Tryz.zeroValue42
  t44 := Tryz.underlying157
  a44 := Tryz.isAgg157
  z44 := Tryz.sizeOf157
  v44 := Tryz.zeroValue157
  t46 := Tryz.underlying84
  a46 := Tryz.isAgg84
  z46 := Tryz.sizeOf84
  v46 := Tryz.zeroValue84
  t53 := Tryz.underlying182
  a53 := Tryz.isAgg182
  z53 := Tryz.sizeOf182
  v53 := Tryz.zeroValue182
  t57 := Tryz.underlying186
  a57 := Tryz.isAgg186
  z57 := Tryz.sizeOf186
  v57 := Tryz.zeroValue186
  t63 := Tryz.underlying191
  a63 := Tryz.isAgg191
  z63 := Tryz.sizeOf191
  v63 := Tryz.zeroValue191
  t64 := Tryz.underlying192
  a64 := Tryz.isAgg192
  z64 := Tryz.sizeOf192
  v64 := Tryz.zeroValue192 }
open Go.Sort Go.RowKit in
theorem Tryz.slices_Sort_int (blk off cap : Nat) (zs : List Int) (w : World) (hH : Holds (Value.int .i64) w blk off zs.toArray) (hblk : blk < w.heap.size) (hsz : zs.length < 4611686018427387904) :
    Calls Tryz.prog 87 #[.slice (some ⟨blk, off, none⟩) zs.length cap] w fun e w' =>
      e = .returned (.tuple #[]) ∧ ∃ n os, w' = grow (putRow (Value.int .i64) (Sort.ahead w n) blk off (zs.mergeSort fun x y => decide (x ≤ y)).toArray) os := AnyM.slices_Sort_int Tryz.laysSlM5_f87 blk off cap zs w hH hblk hsz
open Go.RowKit Go.Sort in
/-- .. and plain. (LAID AT THE INSTANCE 'slices.Sort[[]int,int]': no walk: one application.) -/
theorem Tryz.slices_Sort_int_none (p : Option Addr) (cap : Nat) (w : World) :
    Calls Tryz.prog 87 #[.slice p 0 cap] w fun e w' => e = .returned (.tuple #[]) ∧ w' = w := AnyM.slices_Sort_int_none Tryz.laysSlM5_f87 p cap w
end Go.Proofs
/- whole.trimHalves: what is left is the digits without the noughts at the end. -/
namespace Go.Proofs.YtnfohbpgnbfmeaaGreatDoor
open Go.RowKit Big

set_option maxHeartbeats 400000 in
theorem htrim_val (v : Value) (l : List Nat) (w : World) (h : At w .u32 v l) :
    Calls Tryz.prog 114 #[v] w (fun e w' => e = .returned (cutTo v (strip l).length) ∧ w' = w) := by
  obtain ⟨p, cap, rfl, h1, h2, h3, h4⟩ := h
  unfold maxLen at h2
  go_enter Tryz.func114, Tryz.ntmps114
  go_wp2
  go_loop [0] (fun s => ∃ k : Nat, k ≤ l.length ∧ s = .slice p k cap ∧ strip (l.take k) = strip l) (fun s => lenOf s)
  case atStart => exact ⟨l.length, Nat.le_refl _, rfl, by rw [List.take_length]⟩
  case round =>
    obtain ⟨k, hk, rfl, hs⟩ := hrel
    have Hs := hid hs; clear hs
    by_cases hk0 : 0 < k
    · obtain ⟨b, off, rfl, hb, hc⟩ := h4 (by omega)
      have hck : w.cell? ⟨b, off + (k - 1), none⟩ = some (.int .u32 (l[k-1]'(by omega) : Nat)) := hc (k - 1) (by omega)
      clear hc h4
      go_wp2
      · go_round
        case rel =>
          have hz : ((l[k-1]'(by omega) : Nat) == 0) = true := by simpa using ‹((l[k-1]'(by omega) : Nat) == (0 : Int)) = true›
          refine ⟨k - 1, by omega, rfl, ?_⟩
          rw [← Hs.out, ← strip_take (k := k - 1) (by omega) (by simpa using hz), Nat.sub_add_cancel hk0]
        case measure => simp [lenOf]; omega
      · have hz : ¬ (l[k-1]'(by omega) : Nat) = 0 := by
          have := ‹((l[k-1]'(by omega) : Nat) == (0 : Int)) = false›
          simpa using this
        have hs := strip_take_ne (l := l) (k := k - 1) (by omega) hz
        rw [Nat.sub_add_cancel hk0, Hs.out] at hs
        go_ret
        exact ⟨by rw [hs, List.length_take, Nat.min_eq_left hk]; rfl, rfl⟩
    · obtain rfl : k = 0 := by omega
      have hs : Hid (strip l = []) := by rw [← Hs.out]; rfl
      go_wp2
      go_ret
      exact ⟨by rw [hs.out]; rfl, rfl⟩
end Go.Proofs.YtnfohbpgnbfmeaaGreatDoor
/- whole.split: words as halves of words. -/
namespace Go.Proofs.YtnfohbpgnbfmeaaGreatDoor
open Go.RowKit Big

theorem At.twoI (w : World) (k : IntKind) (e e' : Int) (x y : Nat) (t : TypeId) (h : e = (x : Int)) (h' : e' = (y : Int)) : At (w.alloc (.cells #[.int k e, .int k e'] t)) k (.slice (some ⟨w.heap.size, 0, none⟩) 2 2) [x, y] := by
  subst h; subst h'
  refine ⟨_, 2, rfl, by simp, by simp [maxLen], fun h => (by cases h), fun _ => ⟨_, _, rfl, by simp, fun i hi => ?_⟩⟩
  have hh := heap_alloc_new w (.cells #[.int k (x : Nat), .int k (y : Nat)] t)
  rcases (by simp at hi; omega : i = 0 ∨ i = 1) with rfl | rfl
  · exact (two_cells hh).1
  · exact (two_cells hh).2.1

theorem split_step {L l : List Nat} {k x : Nat} {hk : k < l.length} (hL : L.length = 2 * k) (hx : x = l[k]) (hv : val H L = val W (l.take k)) :
    val H (L ++ [x % 4294967296, x / 4294967296]) = val W (l.take (k + 1)) := by
  rw [val_append, val_take_succ W l k hk, hv, hL, ← hx, show H ^ (2 * k) = W ^ k by rw [Nat.pow_mul]; rfl]
  have e : val H [x % 4294967296, x / 4294967296] = x := by simp only [val, H]; omega
  rw [e]

set_option maxRecDepth 100000 in
set_option maxHeartbeats 1600000 in
theorem split_any (v : Value) (l : List Nat) (w : World) (h : At w .u64 v l) (hs : Small W l) (hlen : l.length ≤ 1099511627776) :
    Calls Tryz.prog 97 #[v] w (ROwn 157 .u32 (dig H (val W l)) w) := by
  obtain ⟨p, cap, rfl, a1, a2, a3, a4⟩ := h
  unfold maxLen at a2
  go_enter Tryz.func97, Tryz.ntmps97
  go_wp2_with (first
    | (at_make; refine wpList_make_at rfl _ _ 139 rfl elemHalves w.heap.size _ _ _ (2 * l.length) rfl rfl (by first | rfl | omega | (simp; done)) (by omega) (by simp [maxLen]; omega) (Nat.le_refl _) ?_; intro vo w1 ho hb1 hs1 hvo; clear hvo))
  go_loopw [3, 12] (fun o i wr => ∃ (k : Nat) (L : List Nat), k ≤ l.length ∧ i = .int .i64 (k : Nat) ∧ Own wr w.heap.size 157 .u32 o L ∧ Hid (L.length = 2 * k) ∧ Small H L ∧
      Hid (val H L = val W (l.take k)) ∧ Below w.heap.size w wr) (fun _ i _ => l.length - (intOf i).toNat)
  case atStart => exact ⟨0, [], Nat.zero_le _, rfl, ho, rfl, small_nil _, rfl, hb1⟩
  case round =>
    obtain ⟨k, L, hk, rfl, hown, hLk, hsl, hv, hbel⟩ := hrel
    by_cases hkl : k < l.length
    · obtain ⟨b, off, rfl, hbb, hcell⟩ := a4 (by omega)
      have e0 : wr.cell? ⟨b, off + k, none⟩ = some (.int .u64 (l[k] : Nat)) := (hbel.cell (p := ⟨b, off + k, none⟩) hbb).trans (hcell k hkl)
      have x0 := small_get hs k hkl
      obtain ⟨x, hx⟩ : ∃ x, x = l[k] := ⟨_, rfl⟩
      rw [← hx] at e0 x0
      have Hx := hid hx; clear hx hcell a4
      unfold W at x0
      go_wp2_with (at_builtin; refine wpList_append_at rfl _ _ 139 rfl elemHalves w.heap.size _ L rfl (hown.alloc _) _ [x % 4294967296, x / 4294967296] rfl (At.twoI _ _ _ _ _ _ _ (by first | rfl | omega) (by first | rfl | omega)) (by rw [hLk.out]; simp [maxLen]; omega) (by rw [hLk.out]; simp; omega) (by have := hbel.size; simp; omega) ?_; intro v2 w2 ho2 hb2 hs2)
      go_roundw
      case rel => exact ⟨k + 1, L ++ [x % 4294967296, x / 4294967296], by omega, by go_num, ho2, by have := hLk.out; unfold Hid; simp; omega,
        small_append hsl (small_cons (Nat.mod_lt _ (by decide)) (small_cons (by unfold H; omega) (small_nil _))), split_step hLk.out Hx.out hv.out, (hbel.trans ((below1 _ _).mono hbel.size)).trans hb2⟩
      case measure => (simp [intOf] <;> omega)
    · obtain rfl : k = l.length := by omega
      have hv' : Hid (strip L = dig H (val W l)) := by
        have := hv.out
        rw [List.take_length] at this
        unfold Hid
        rw [← this, strip_dig H2 hsl]
      have hst := strip_length L
      clear a4
      have ho' := hown
      obtain ⟨po, co, rfl, -⟩ := id hown.at
      go_wp2_with (go_at_call 114; refine (htrim_val _ L _ hown.at).mono ?_; rintro e w' ⟨rfl, rfl⟩; simp only [cutTo])
      go_ret
      exact ⟨_, rfl, by rw [← hv'.out]; have := ho'.take (strip L).length hst; rwa [← strip_is_take] at this, hbel⟩
end Go.Proofs.YtnfohbpgnbfmeaaGreatDoor
/- whole.divideShort: a quotient by one half, in place. -/
namespace Go.Proofs.YtnfohbpgnbfmeaaGreatDoor
open Go.RowKit Big

theorem Own.shape {w : World} {base : Nat} {e : TypeId} {k : IntKind} {v : Value} {l : List Nat} (h : Own w base e k v l) (hl : 0 < l.length) :
    ∃ g cap, v = .slice (some ⟨g, 0, none⟩) l.length cap ∧ base ≤ g ∧ g < w.heap.size ∧ l.length ≤ cap ∧ cap ≤ maxLen := by
  rcases h.2 with ⟨_, h0⟩ | ⟨g, cap, cur, hv, h1, h2, h3, h4, _⟩
  · omega
  · exact ⟨g, cap, hv, h1, (Array.getElem?_eq_some_iff.1 h2).1, h3, h4⟩
theorem Own.cell {w : World} {base : Nat} {e : TypeId} {k : IntKind} {g n cap : Nat} {l : List Nat} (h : Own w base e k (.slice (some ⟨g, 0, none⟩) n cap) l) (j : Nat) (hj : j < l.length) :
    w.cell? ⟨g, j, none⟩ = some (.int k (l[j] : Nat)) ∧ w.frozen? ⟨g, j, none⟩ = false := by
  have hn : n = l.length := by
    rcases h.2 with ⟨h1, _⟩ | ⟨g, cap, cur, hv, _⟩
    · cases h1
    · cases hv; rfl
  subst hn
  refine ⟨?_, World.ownsRow.frozenAt h j⟩
  rw [World.ownsRow.cellAt h j (by omega)]
  simp [ints, hj]
/-- a store into an owned row -/
theorem Own.set {w : World} {base : Nat} {e : TypeId} {k : IntKind} {g n cap : Nat} {l : List Nat} (h : Own w base e k (.slice (some ⟨g, 0, none⟩) n cap) l) (j x : Nat) :
    Own (w.setCell ⟨g, j, none⟩ (.int k (x : Nat))) base e k (.slice (some ⟨g, 0, none⟩) n cap) (l.set j x) ∧ w.grownBy (w.setCell ⟨g, j, none⟩ (.int k (x : Nat))) (some g) := by
  have hn : n = l.length := by
    rcases h.2 with ⟨h1, _⟩ | ⟨g, cap, cur, hv, _⟩
    · cases h1
    · cases hv; rfl
  subst hn
  have hs := World.ownsRow.stored h j (.int k (x : Nat))
  refine ⟨?_, hs.2⟩
  unfold Own
  rw [List.length_set]
  have e1 : ints k (l.set j x) = (ints k l).set j (.int k (x : Nat)) := by simp [ints, List.map_set]
  rw [e1]; exact hs.1

theorem grown_trans {a b c : World} {row : Option Nat} (h : a.grownBy b row) (k : b.grownBy c row) : a.grownBy c row :=
  ⟨k.os.trans h.os, k.tape.trans h.tape, k.output.trans h.output, Nat.le_trans h.size k.size, fun i hi hne => (k.block i (Nat.lt_of_lt_of_le hi h.size) hne).trans (h.block i hi hne)⟩

theorem or_half (a b : Nat) (ha : a < 4294967296) (hb : b < 4294967296) : bits BinOp.or IntKind.u64 ((a : Int) * 4294967296) (b : Int) = ((a * 4294967296 + b : Nat) : Int) := by
  have h := u64_or_nat (a * 4294967296) b (by omega) (by omega)
  rw [Int.natCast_mul] at h
  rw [show ((a : Int) * 4294967296) = (a : Int) * ((4294967296 : Nat) : Int) by rfl, h]
  have e := Nat.two_pow_add_eq_or_of_lt (i := 32) (b := b) (by simpa using hb) a
  rw [show (2 : Nat) ^ 32 = 4294967296 by rfl, Nat.mul_comm] at e
  rw [← e]
theorem wrap_nat (n : Nat) (h : n < W) : IntKind.u64.wrap (n : Int) = (n : Int) := by
  unfold W at h
  simp only [IntKind.wrap, IntKind.bits, IntKind.signed]
  simp
  omega
theorem set_take {l Q : List Nat} {k : Nat} (hk : k < l.length) (x : Nat) : (l.take (k + 1) ++ Q).set k x = l.take k ++ x :: Q := by
  rw [take_succ' l k hk, List.append_assoc, List.set_append_right _ _ (by simp; omega)]
  have : k - (l.take k).length = 0 := by simp; omega
  rw [this]; rfl
theorem divShort_step {l Q : List Nat} {k x rest d P : Nat} {hk : k < l.length} (hx : x = l[k]) (hP : P = rest * 4294967296 + x)
    (hv : val H l = val H (l.take (k + 1)) + H ^ (k + 1) * (d * val H Q + rest)) : val H l = val H (l.take k) + H ^ k * (d * val H (P / d :: Q) + P % d) := by
  rw [hv, val_take_succ H l k hk, ← hx, Nat.pow_succ, val_cons]
  have e : P = d * (P / d) + P % d := (Nat.div_add_mod P d).symm
  have e2 : d * (P / d) + P % d = rest * H + x := by rw [← e, hP]; rfl
  generalize P / d = q at *
  generalize P % d = r at *
  have : H ^ k * (d * (q + H * val H Q) + r) = H ^ k * (rest * H + x) + H ^ k * (d * (H * val H Q)) := by rw [← e2]; grind
  rw [this]; grind
theorem div_lt_half {P d rest x : Nat} (hP : P = rest * 4294967296 + x) (hr : rest < d) (hx : x < 4294967296) : P / d < 4294967296 := by
  rw [Nat.div_lt_iff_lt_mul (by omega)]
  have : (rest + 1) * 4294967296 ≤ d * 4294967296 := Nat.mul_le_mul_right _ hr
  rw [Nat.mul_comm 4294967296 d]
  omega

set_option maxRecDepth 100000 in
set_option maxHeartbeats 1600000 in
theorem divideShort_any (B : Nat) (v : Value) (l : List Nat) (d : Nat) (w : World) (h : Own w B 157 .u32 v l) (hs : Small H l) (hd0 : 0 < d) (hd : d < H) :
    Calls Tryz.prog 115 #[v, .int .u32 (d : Nat)] w (fun e w' => e = .returned (.tuple #[cutTo v (sz H (val H l / d)), .int .u32 (val H l % d : Nat)]) ∧
      Own w' B 157 .u32 (cutTo v (sz H (val H l / d))) (dig H (val H l / d)) ∧ w.grownBy w' v.ownBlock) := by
  by_cases hl : 0 < l.length
  · obtain ⟨g, cap, rfl, hBg, hg, hc1, hc2⟩ := h.shape hl
    unfold maxLen at hc2
    unfold H at hd
    go_enter Tryz.func115, Tryz.ntmps115
    go_wp2_with fail
    go_loopw [6, 7] (fun r i wr => ∃ (k rest : Nat) (Q : List Nat), k ≤ l.length ∧ i = .int .i64 ((k : Int) - 1) ∧ r = .int .u64 (rest : Nat) ∧ rest < d ∧ Hid (k + Q.length = l.length) ∧ Small H Q ∧
        Own wr B 157 .u32 (.slice (some ⟨g, 0, none⟩) l.length cap) (l.take k ++ Q) ∧ Hid (val H l = val H (l.take k) + H ^ k * (d * val H Q + rest)) ∧ w.grownBy wr (some g)) (fun _ i _ => (intOf i + 1).toNat)
    case atStart => exact ⟨l.length, 0, [], Nat.le_refl _, rfl, rfl, hd0, rfl, small_nil _, by simpa using h, by unfold Hid; simp [val], World.grownBy.refl _ _⟩
    case round =>
      obtain ⟨k, rest, Q, hk, rfl, rfl, hr, hQ, hsQ, hown, hv, hgr⟩ := hrel
      by_cases hk0 : 0 < k
      · obtain ⟨k, rfl⟩ : ∃ k', k = k' + 1 := ⟨k - 1, by omega⟩
        have hkl : k < (l.take (k + 1) ++ Q).length := by simp; omega
        obtain ⟨c0, f0⟩ := hown.cell k hkl
        have ex : (l.take (k + 1) ++ Q)[k] = l[k]'(by omega) := by rw [List.getElem_append_left (by simp; omega), List.getElem_take]
        have x0 := small_get hs k (by omega)
        rw [ex] at c0
        obtain ⟨x, hx⟩ : ∃ x, x = l[k]'(by omega) := ⟨_, rfl⟩
        rw [← hx] at c0 x0
        have Hx := hid hx
        unfold H at x0
        clear hx ex
        go_wp2
        obtain ⟨P, hP⟩ : ∃ P, P = rest * 4294967296 + x := ⟨_, rfl⟩
        have hor := or_half rest x (by omega) x0
        rw [← hP] at hor
        have q0 := div_lt_half hP hr x0
        have r0 : P % d < d := Nat.mod_lt _ hd0
        have hm : (bits BinOp.or IntKind.u64 ((rest : Int) * 4294967296) (x : Int)).tmod (d : Int) = ((P % d : Nat) : Int) := by rw [hor]; rfl
        have hd' : IntKind.u64.wrap ((bits BinOp.or IntKind.u64 ((rest : Int) * 4294967296) (x : Int)).tdiv (d : Int)) % 4294967296 = ((P / d : Nat) : Int) := by
          rw [hor, show ((P : Nat) : Int).tdiv (d : Int) = ((P / d : Nat) : Int) from rfl, wrap_nat _ (by unfold W; omega)]
          generalize P / d = qq at *
          omega
        have HP := hid hP
        clear hP hor
        obtain ⟨q, hq⟩ : ∃ q, q = P / d := ⟨_, rfl⟩
        obtain ⟨r, hr'⟩ : ∃ r, r = P % d := ⟨_, rfl⟩
        rw [← hq] at q0 hd'
        rw [← hr'] at r0 hm
        have Hq := hid hq; have Hr := hid hr'; have Hm := hid hm; have Hd := hid hd'
        clear hq hr' hm hd'
        go_wp2
        rw [Hm.out, Hd.out]
        have hset := hown.set k q
        have hlist := set_take (Q := Q) (show k < l.length by omega) q
        rw [hlist] at hset
        go_roundw
        case rel => exact ⟨k, r, q :: Q, by omega, rfl, rfl, r0, by have := hQ.out; unfold Hid; simp; omega, small_cons q0 hsQ, hset.1,
          by have := divShort_step (hk := by omega) Hx.out HP.out hv.out; rw [← Hq.out, ← Hr.out] at this; exact this, grown_trans hgr hset.2⟩
        case measure => (simp [intOf] <;> omega)
      · obtain rfl : k = 0 := by omega
        have hv' : val H l = d * val H Q + rest := by have := hv.out; simpa [val] using this
        have e1 : val H l / d = val H Q := by
          rw [hv', Nat.mul_add_div hd0, Nat.div_eq_of_lt hr, Nat.add_zero]
        have e2 : val H l % d = rest := by rw [hv', Nat.mul_add_mod, Nat.mod_eq_of_lt hr]
        rw [List.take_zero, List.nil_append] at hown
        have hst : Hid (strip Q = dig H (val H l / d)) := by unfold Hid; rw [e1, strip_dig H2 hsQ]
        have hsz : Hid ((strip Q).length = sz H (val H l / d)) := by unfold Hid sz; rw [hst.out]
        have E2 := hid e2
        have ht := htrim_val _ Q wr hown.at
        have Ht := hid ht
        have hstl := strip_length Q
        clear e1 e2 hv' hv ht
        have hrest : rest < 4294967296 := by omega
        go_wp2_with (go_at_call 114; refine Ht.out.mono ?_; rintro e w' ⟨rfl, rfl⟩; simp only [cutTo])
        go_ret2
        refine ⟨?_, ?_, hgr⟩
        · rw [← hsz.out, E2.out]; rfl
        · rw [← hsz.out, ← hst.out]
          have := hown.take (strip Q).length hstl
          rwa [← strip_is_take] at this
  · have hl0 : l = [] := List.eq_nil_of_length_eq_zero (by omega)
    subst hl0
    have ho := hid h
    obtain ⟨p, c, rfl, b1, b2, b3, -⟩ := h.at
    have ht := htrim_val _ [] w h.at
    have Ht := hid ht
    clear ht h
    have hstrip : (strip []).length = 0 := rfl
    rw [hstrip] at Ht
    clear hstrip
    simp only [List.length_nil] at *
    go_enter Tryz.func115, Tryz.ntmps115
    go_wp2_with fail
    refine wp_loop_rounds 1 ?_
    rw [rounds_succ]
    go_wp2_with (go_at_call 114; refine Ht.out.mono ?_; rintro e w' ⟨rfl, rfl⟩; simp only [cutTo])
    go_ret2
    have e1 : val H [] / d = 0 := by simp [val]
    have e2 : val H [] % d = 0 := by simp [val]
    refine ⟨?_, ?_, World.grownBy.refl _ _⟩
    · rw [e1, e2]; rfl
    · rw [e1]; exact ho.out
end Go.Proofs.YtnfohbpgnbfmeaaGreatDoor
/- whole.join: halves of words as words. -/
namespace Go.Proofs.YtnfohbpgnbfmeaaGreatDoor
open Go.RowKit Big

theorem half_or (a b : Nat) (ha : a < 4294967296) (hb : b < 4294967296) : bits BinOp.or IntKind.u64 (b : Int) ((a : Int) * 4294967296) = ((a * 4294967296 + b : Nat) : Int) := by
  have h := u64_or_nat b (a * 4294967296) (by omega) (by omega)
  rw [Int.natCast_mul] at h
  rw [show ((a : Int) * 4294967296) = (a : Int) * ((4294967296 : Nat) : Int) by rfl, h]
  have e := Nat.two_pow_add_eq_or_of_lt (i := 32) (b := b) (by simpa using hb) a
  rw [show (2 : Nat) ^ 32 = 4294967296 by rfl, Nat.mul_comm] at e
  rw [e, Nat.or_comm]

theorem join_step {L l : List Nat} {j x y : Nat} (hL : L.length = j) (hx : x = l[2 * j]?.getD 0) (hy : y = l[2 * j + 1]?.getD 0) (hv : val W L = val H (l.take (2 * j))) :
    val W (L ++ [y * 4294967296 + x]) = val H (l.take (2 * j + 2)) := by
  rw [show 2 * j + 2 = 2 * j + 1 + 1 by rfl, val_take_getD, val_take_getD, val_snoc, hv, hL, ← hx, ← hy, Nat.pow_succ, show H ^ (2 * j) = W ^ j by rw [Nat.pow_mul]; rfl]
  have : W ^ j * (y * 4294967296 + x) = W ^ j * x + W ^ j * H * y := by unfold H; grind
  rw [this]; omega

set_option maxRecDepth 100000 in
set_option maxHeartbeats 1600000 in
theorem join_any (v : Value) (n : Nat) (w : World) (h : At w .u32 v (dig H n)) (hlen : sz H n ≤ 4398046511104) :
    Calls Tryz.prog 99 #[v] w (ROwn 84 .u64 (dig W n) w) := by
  have hs := small_dig H2 n
  have hvn := val_dig H2 n
  have hl : (dig H n).length = sz H n := rfl
  have hp := fun h0 => pow_sz_le H2 (n := n) h0
  have hz : n = 0 → (dig H n).length = 0 := fun e => by rw [e]; rfl
  generalize sz H n = N at *
  generalize dig H n = l at *
  have Hvn := hid hvn; have Hp := hid hp; have Hz := hid hz
  clear hvn hp hz
  obtain ⟨p, cap, rfl, a1, a2, a3, a4⟩ := h
  unfold maxLen at a2
  go_enter Tryz.func99, Tryz.ntmps99
  go_wp2_with (first
    | (at_make; refine wpList_make_at rfl _ _ 33 rfl elemNat w.heap.size _ _ _ ((l.length + 1) / 2) rfl rfl (by first | rfl | omega | (simp; done)) (by omega) (by simp [maxLen]; omega) (Nat.le_refl _) ?_; intro vo w1 ho hb1 hs1 hvo; clear hvo))
  go_loopw [3, 4] (fun o i wr => ∃ (j k : Nat) (L : List Nat), Hid (k = 2 * j) ∧ k ≤ l.length + 1 ∧ i = .int .i64 (k : Nat) ∧ Own wr w.heap.size 84 .u64 o L ∧ Hid (L.length = j) ∧ j ≤ k ∧ Small W L ∧
      Hid (val W L = val H (l.take k)) ∧ Below w.heap.size w wr) (fun _ i _ => l.length + 2 - (intOf i).toNat)
  case atStart => exact ⟨0, 0, [], rfl, by omega, rfl, ho, rfl, by omega, small_nil _, rfl, hb1⟩
  case round =>
    obtain ⟨j, k, L, hkj, hk, rfl, hown, hLj, hjk, hsl, hv, hbel⟩ := hrel
    by_cases hkl : k < l.length
    · obtain ⟨b, off, rfl, hbb, hcell⟩ := a4 (by omega)
      have e0 : wr.cell? ⟨b, off + k, none⟩ = some (.int .u32 (l[k] : Nat)) := (hbel.cell (p := ⟨b, off + k, none⟩) hbb).trans (hcell k hkl)
      have x0 := small_get hs k hkl
      obtain ⟨x, hx⟩ : ∃ x, x = l[k] := ⟨_, rfl⟩
      rw [← hx] at e0 x0
      have Hx : Hid (x = l[2 * j]?.getD 0) := by unfold Hid; rw [← hkj.out]; simp [hkl, hx]
      clear hx
      unfold H at x0
      by_cases hk1 : k + 1 < l.length
      · have e1 : wr.cell? ⟨b, off + (k + 1), none⟩ = some (.int .u32 (l[k + 1] : Nat)) := (hbel.cell (p := ⟨b, off + (k + 1), none⟩) hbb).trans (hcell (k + 1) hk1)
        have y0 := small_get hs (k + 1) hk1
        obtain ⟨y, hy⟩ : ∃ y, y = l[k + 1] := ⟨_, rfl⟩
        rw [← hy] at e1 y0
        have Hy : Hid (y = l[2 * j + 1]?.getD 0) := by unfold Hid; rw [← hkj.out]; simp [hk1, hy]
        clear hy hcell a4
        unfold H at y0
        have hor := half_or y x y0 x0
        go_wp2_with (at_builtin; refine wpList_append_at rfl _ _ 33 rfl elemNat w.heap.size _ L rfl (hown.alloc _) _ [y * 4294967296 + x] rfl (At.oneI _ _ _ _ _ (by first | exact hor | (rw [hor]; done) | omega)) (by rw [hLj.out]; simp [maxLen]; omega) (by rw [hLj.out]; simp; omega) (by have := hbel.size; simp; omega) ?_; intro v2 w2 ho2 hb2 hs2)
        go_roundw
        case rel => exact ⟨j + 1, k + 2, L ++ [y * 4294967296 + x], by have := hkj.out; unfold Hid; omega, by omega, by go_num, ho2, by have := hLj.out; unfold Hid; simp; omega, by omega, small_snoc hsl (by unfold W; omega),
          by have := join_step hLj.out Hx.out Hy.out (by rw [← hkj.out]; exact hv.out); rw [← hkj.out] at this; exact this, (hbel.trans ((below1 _ _).mono hbel.size)).trans hb2⟩
        case measure => (simp [intOf] <;> omega)
      · have Hy : Hid (0 = l[2 * j + 1]?.getD 0) := by unfold Hid; rw [← hkj.out, List.getElem?_eq_none (by omega)]; rfl
        clear hcell a4
        go_wp2_with (at_builtin; refine wpList_append_at rfl _ _ 33 rfl elemNat w.heap.size _ L rfl (hown.alloc _) _ [0 * 4294967296 + x] rfl (At.oneI _ _ _ _ _ (by omega)) (by rw [hLj.out]; simp [maxLen]; omega) (by rw [hLj.out]; simp; omega) (by have := hbel.size; simp; omega) ?_; intro v2 w2 ho2 hb2 hs2)
        go_roundw
        case rel => exact ⟨j + 1, k + 2, L ++ [0 * 4294967296 + x], by have := hkj.out; unfold Hid; omega, by omega, by go_num, ho2, by have := hLj.out; unfold Hid; simp; omega, by omega, small_snoc hsl (by unfold W; omega),
          by have := join_step hLj.out Hx.out Hy.out (by rw [← hkj.out]; exact hv.out); rw [← hkj.out] at this; exact this, (hbel.trans ((below1 _ _).mono hbel.size)).trans hb2⟩
        case measure => (simp [intOf] <;> omega)
    · have hv' : Hid (L = dig W n) := by
        have e := hv.out
        rw [val_take_ge _ _ _ (by omega), Hvn.out] at e
        unfold Hid
        refine canon_val W2 hsl e ?_
        by_cases hj0 : j = 0
        · left; exact List.eq_nil_of_length_eq_zero (by rw [hLj.out, hj0])
        · right
          have hpos : 0 < n := by
            rcases Nat.eq_zero_or_pos n with h0 | h0
            · exfalso
              have := hkj.out
              have := Hz.out h0
              omega
            · exact h0
          have hp := Hp.out hpos
          rw [hLj.out]
          refine Nat.le_trans ?_ hp
          rw [show W ^ (j - 1) = H ^ (2 * (j - 1)) by rw [Nat.pow_mul]; rfl]
          exact Nat.pow_le_pow_right (by decide) (by have := hkj.out; omega)
      clear a4 hkj hv Hp Hvn
      go_wp2
      go_ret
      exact ⟨_, rfl, by rw [← hv'.out]; exact hown, hbel⟩
end Go.Proofs.YtnfohbpgnbfmeaaGreatDoor
/- whole.timesPlus: halves so many times as great, and more, in place. -/
namespace Go.Proofs.YtnfohbpgnbfmeaaGreatDoor
open Go.RowKit Big

end Go.Proofs.YtnfohbpgnbfmeaaGreatDoor
/- whole.timesHalves: products of halves of words. -/
namespace Go.Proofs.YtnfohbpgnbfmeaaGreatDoor
open Go.RowKit Big

theorem val_set (B : Nat) : ∀ (l : List Nat) (k x : Nat) (h : k < l.length), val B (l.set k x) + B ^ k * l[k] = val B l + B ^ k * x
  | [], k, x, h => absurd h (by simp)
  | y :: l, 0, x, _ => by simp [val]; omega
  | y :: l, k + 1, x, h => by
    have ih := val_set B l k x (by simpa using h)
    simp only [List.set_cons_succ, val, List.getElem_cons_succ, Nat.pow_succ]
    have : B * (val B (l.set k x) + B ^ k * l[k]'(by simpa using h)) = B * (val B l + B ^ k * x) := by rw [ih]
    grind
theorem small_set {B : Nat} {l : List Nat} (h : Small B l) (k : Nat) {x : Nat} (hx : x < B) : Small B (l.set k x) := by
  intro y hy
  rcases List.mem_or_eq_of_mem_set hy with h1 | h1
  · exact h y h1
  · rw [h1]; exact hx
/-- one step of a row: the product's digit, what lies there, and the carry -/
theorem times_step {O : List Nat} {k x y c P Va Vb HI HJ : Nat} (hk : k < O.length) (hP : P = x * y + O[k] + c) (hHk : H ^ k = HI * HJ)
    (hv : val H O + c * H ^ k = Va + HI * (x * Vb)) : val H (O.set k (P % 4294967296)) + P / 4294967296 * H ^ (k + 1) = Va + HI * (x * (Vb + HJ * y)) := by
  have h1 := val_set H O k (P % 4294967296) hk
  have e2 : P % 4294967296 + H * (P / 4294967296) = x * y + O[k] + c := by rw [← hP]; unfold H; omega
  rw [Nat.pow_succ]
  generalize val H (O.set k (P % 4294967296)) = V' at *
  generalize O[k] = o at *
  generalize P % 4294967296 = r at *
  generalize P / 4294967296 = q at *
  have e3 : H ^ k * (r + H * q) = H ^ k * (x * y + o + c) := by rw [e2]
  have e4 : V' + H ^ k * o + q * (H ^ k * H) = Va + HI * (x * Vb) + H ^ k * (x * y) + H ^ k * o := by grind
  rw [hHk] at e4 ⊢
  grind
theorem mulsum_lt {x y o c : Nat} (hx : x < 4294967296) (hy : y < 4294967296) (ho : o < 4294967296) (hc : c < 4294967296) :
    x * y ≤ 18446744065119617025 ∧ x * y + o + c < 18446744073709551616 ∧ (x * y + o + c) / 4294967296 < 4294967296 := by
  have h : x * y ≤ 4294967295 * 4294967295 := Nat.mul_le_mul (by omega) (by omega)
  omega
end Go.Proofs.YtnfohbpgnbfmeaaGreatDoor
/- whole.timesHalves: the walk. -/
namespace Go.Proofs.YtnfohbpgnbfmeaaGreatDoor
open Go.RowKit Big

theorem val_zeros (B n : Nat) : val B (List.replicate n 0) = 0 := by
  induction n with
  | zero => rfl
  | succ n ih => rw [List.replicate_succ, val_cons, ih]; simp
theorem small_zeros {B : Nat} (hB : 0 < B) (n : Nat) : Small B (List.replicate n 0) := fun x hx => by rw [List.eq_of_mem_replicate hx]; exact hB

set_option maxRecDepth 100000 in
set_option maxHeartbeats 3200000 in
theorem timesHalves_any (v0 v1 : Value) (l0 l1 : List Nat) (w : World) (h0 : At w .u32 v0 l0) (h1 : At w .u32 v1 l1) (s0 : Small H l0) (s1 : Small H l1)
    (hl0 : l0.length ≤ 4398046511104) (hl1 : l1.length ≤ 4398046511104) : Calls Tryz.prog 137 #[v0, v1] w (ROwn 157 .u32 (dig H (val H l0 * val H l1)) w) := by
  obtain ⟨p0, c0, rfl, a1, a2, a3, a4⟩ := h0
  obtain ⟨p1, c1, rfl, b1, b2, b3, b4⟩ := h1
  unfold maxLen at a2 b2
  go_enter Tryz.func137, Tryz.ntmps137
  go_wp2_with (first
    | (at_make; refine wpList_full_at rfl _ _ 139 rfl elemHalves w.heap.size _ _ _ _ (l0.length + l1.length) rfl rfl (by first | rfl | omega | (simp; done)) (by first | rfl | omega | (simp; done)) (by omega) (by simp [maxLen]; omega) (Nat.le_refl _) ?_; intro vo w1 ho hb1 hs1 hvo; subst hvo))
  go_loopw [20] (fun i wr => ∃ (k : Nat) (O : List Nat), k ≤ l0.length ∧ i = .int .i64 (k : Nat) ∧ Own wr w.heap.size 157 .u32 (.slice (some ⟨w.heap.size, 0, none⟩) (l0.length + l1.length) (l0.length + l1.length)) O ∧ Hid (O.length = l0.length + l1.length) ∧ Small H O ∧
      Hid (∀ j, k + l1.length ≤ j → O[j]?.getD 0 = 0) ∧ Hid (val H O = val H (l0.take k) * val H l1) ∧ Below w.heap.size w wr ∧ w.heap.size ≤ wr.heap.size) (fun i _ => l0.length - (intOf i).toNat)
  case atStart => exact ⟨0, List.replicate (l0.length + l1.length) 0, Nat.zero_le _, rfl, ho, by simp [Hid], small_zeros (by decide) _, by unfold Hid; intro j _; simp [List.getElem?_replicate]; split <;> rfl, by unfold Hid; simp [val_zeros, val], hb1, hs1⟩
  case round =>
    obtain ⟨k, O, hk, rfl, hown, hO, hsO, hz, hv, hbel, hsz⟩ := hrel
    by_cases hkl : k < l0.length
    · obtain ⟨b, off, rfl, hbb, hcell⟩ := a4 (by omega)
      have e0 : wr.cell? ⟨b, off + k, none⟩ = some (.int .u32 (l0[k] : Nat)) := (hbel.cell (p := ⟨b, off + k, none⟩) hbb).trans (hcell k hkl)
      have x0 := small_get s0 k hkl
      obtain ⟨x, hx⟩ : ∃ x, x = l0[k] := ⟨_, rfl⟩
      rw [← hx] at e0 x0
      have Hx := hid hx; clear hx hcell a4
      unfold H at x0
      go_wp2_with fail
      go_loopw [8, 27] (fun c j wq => ∃ (i c' : Nat) (Q : List Nat), i ≤ l1.length ∧ j = .int .i64 (i : Nat) ∧ c = .int .u64 (c' : Nat) ∧ c' < 4294967296 ∧ Own wq w.heap.size 157 .u32 (.slice (some ⟨w.heap.size, 0, none⟩) (l0.length + l1.length) (l0.length + l1.length)) Q ∧ Hid (Q.length = l0.length + l1.length) ∧ Small H Q ∧
        Hid (∀ j, k + l1.length ≤ j → Q[j]?.getD 0 = 0) ∧ Hid (val H Q + c' * H ^ (k + i) = val H (l0.take k) * val H l1 + H ^ k * (x * val H (l1.take i))) ∧ Below w.heap.size w wq ∧ w.heap.size ≤ wq.heap.size) (fun _ j _ => l1.length - (intOf j).toNat)
      case atStart => exact ⟨0, 0, O, Nat.zero_le _, rfl, rfl, by omega, hown, hO, hsO, hz, by have := hv.out; unfold Hid; simp [val, this], hbel, hsz⟩
      case round =>
        obtain ⟨i, c', Q, hi, rfl, rfl, hc', hown', hQ, hsQ, hzQ, hvQ, hbel', hsz'⟩ := hrel
        by_cases hil : i < l1.length
        · obtain ⟨b', off', rfl, hbb', hcell'⟩ := b4 (by omega)
          have e1 := (hbel'.cell (p := ⟨b', off' + i, none⟩) hbb').trans (hcell' i hil)
          have y0 := small_get s1 i hil
          obtain ⟨y, hy⟩ : ∃ y, y = l1[i] := ⟨_, rfl⟩
          rw [← hy] at e1 y0
          have Hy := hid hy; clear hy hcell' b4
          unfold H at y0
          have hkq : k + i < Q.length := by rw [hQ.out]; omega
          obtain ⟨cc0, f0⟩ := hown'.cell (k + i) hkq
          have o0 := small_get hsQ (k + i) hkq
          obtain ⟨o, ho'⟩ : ∃ o, o = Q[k + i] := ⟨_, rfl⟩
          rw [← ho'] at cc0 o0
          have Ho := hid ho'; clear ho'
          unfold H at o0
          obtain ⟨m1, m2, m3⟩ := mulsum_lt x0 y0 o0 hc'
          obtain ⟨P, hP⟩ : ∃ P, P = x * y + o + c' := ⟨_, rfl⟩
          rw [← hP] at m2 m3
          have q1 : (x : Int) * (y : Int) ≤ 18446744065119617025 := by
            have : ((x * y : Nat) : Int) ≤ 18446744065119617025 := by omega
            rwa [Int.natCast_mul] at this
          have q2 : 0 ≤ (x : Int) * (y : Int) := by rw [← Int.natCast_mul]; omega
          have q3 : (x : Int) * (y : Int) + (o : Int) + (c' : Int) = (P : Int) := by rw [hP]; simp
          have q4 : (x : Int) * (y : Int) + (o : Int) + (c' : Int) ≤ 18446744073709551615 := by rw [q3]; omega
          have HP := hid hP; have Q3 := hid q3
          clear hP q3
          go_wp2
          have r1 : ((x : Int) * (y : Int) + (o : Int) + (c' : Int)) / 4294967296 = ((P / 4294967296 : Nat) : Int) := by rw [Q3.out]; omega
          have r2 : ((x : Int) * (y : Int) + (o : Int) + (c' : Int)) % 4294967296 = ((P % 4294967296 : Nat) : Int) := by rw [Q3.out]; omega
          rw [r1, r2]
          have hset := hown'.set (k + i) (P % 4294967296)
          have hz' : ∀ j, k + l1.length ≤ j → (Q.set (k + i) (P % 4294967296))[j]?.getD 0 = 0 := fun j hj => by
            rw [List.getElem?_set_ne (by omega)]; exact hzQ.out j hj
          have hv' : val H (Q.set (k + i) (P % 4294967296)) + P / 4294967296 * H ^ (k + (i + 1)) = val H (l0.take k) * val H l1 + H ^ k * (x * val H (l1.take (i + 1))) := by
            have := times_step (HI := H ^ k) (HJ := H ^ i) (y := y) hkq (show P = x * y + Q[k + i] + c' by rw [← Ho.out]; exact HP.out) (Nat.pow_add ..) hvQ.out
            rw [val_take_succ H l1 i hil, ← Hy.out]
            exact this
          go_roundw
          case rel => exact ⟨i + 1, P / 4294967296, Q.set (k + i) (P % 4294967296), by omega, by go_num, rfl, m3, hset.1, by unfold Hid; rw [List.length_set]; exact hQ.out, small_set hsQ _ (Nat.mod_lt _ (by decide)), hz', hv',
            hbel'.setCell (p := ⟨w.heap.size, k + i, none⟩) (Nat.le_refl _) _, by simpa [World.setCell] using hsz'⟩
          case measure => (simp [intOf] <;> omega)
        · obtain rfl : i = l1.length := by omega
          have hkq : k + l1.length < Q.length := by rw [hQ.out]; omega
          obtain ⟨cc0, f0⟩ := hown'.cell (k + l1.length) hkq
          have o0 : Q[k + l1.length] = 0 := by have := hzQ.out (k + l1.length) (Nat.le_refl _); simpa [hkq] using this
          have hvs := val_set H Q (k + l1.length) c' hkq
          rw [o0, Nat.mul_zero, Nat.add_zero] at hvs
          have hset := hown'.set (k + l1.length) c'
          have hv' : val H (Q.set (k + l1.length) c') = val H (l0.take (k + 1)) * val H l1 := by
            have := hvQ.out
            rw [List.take_length] at this
            rw [hvs, val_take_succ H l0 k hkl, ← Hx.out, Nat.add_mul, Nat.mul_comm (H ^ (k + l1.length)), this, Nat.mul_assoc]
          have hz' : ∀ j, k + 1 + l1.length ≤ j → (Q.set (k + l1.length) c')[j]?.getD 0 = 0 := fun j hj => by
            rw [List.getElem?_set_ne (by omega)]; exact hzQ.out j (by omega)
          have HV := hid hv'
          clear hvs hv' o0 b4
          have hmod : (c' : Int) % 4294967296 = (c' : Int) := by omega
          go_wp2
          first | rw [hmod] | skip
          go_roundw
          case rel => exact ⟨k + 1, Q.set (k + l1.length) c', by omega, by go_num, hset.1, by unfold Hid; rw [List.length_set]; exact hQ.out, small_set hsQ _ (show c' < 4294967296 from hc'), hz', HV.out,
            hbel'.setCell (p := ⟨w.heap.size, k + l1.length, none⟩) (Nat.le_refl _) _, by simpa [World.setCell] using hsz'⟩
          case measure => (simp [intOf] <;> omega)
    · obtain rfl : k = l0.length := by omega
      have hv' : Hid (strip O = dig H (val H l0 * val H l1)) := by
        have := hv.out
        rw [List.take_length] at this
        unfold Hid
        rw [← this, strip_dig H2 hsO]
      have hst := strip_length O
      have ht := hid (htrim_val _ O wr hown.at)
      clear a4 b4
      go_wp2_with (go_at_call 114; refine ht.out.mono ?_; rintro e w' ⟨rfl, rfl⟩; simp only [cutTo])
      go_ret
      exact ⟨_, rfl, by rw [← hv'.out]; have := hown.take (strip O).length hst; rwa [← strip_is_take] at this, hbel⟩
end Go.Proofs.YtnfohbpgnbfmeaaGreatDoor
/- elenchusref01.trim: what is left is the digits without the noughts at the end. -/
namespace Go.Proofs.YtnfohbpgnbfmeaaGreatDoor
open Go.RowKit Big

set_option maxHeartbeats 400000 in
theorem rtrim_val (v : Value) (l : List Nat) (w : World) (h : At w .i64 v l) :
    Calls Tryz.prog 78 #[v] w (fun e w' => e = .returned (cutTo v (strip l).length) ∧ w' = w) := by
  obtain ⟨p, cap, rfl, h1, h2, h3, h4⟩ := h
  unfold maxLen at h2
  go_enter Tryz.func78, Tryz.ntmps78
  go_wp2
  go_loop [0] (fun s => ∃ k : Nat, k ≤ l.length ∧ s = .slice p k cap ∧ strip (l.take k) = strip l) (fun s => lenOf s)
  case atStart => exact ⟨l.length, Nat.le_refl _, rfl, by rw [List.take_length]⟩
  case round =>
    obtain ⟨k, hk, rfl, hs⟩ := hrel
    have Hs := hid hs; clear hs
    by_cases hk0 : 0 < k
    · obtain ⟨b, off, rfl, hb, hc⟩ := h4 (by omega)
      have hck : w.cell? ⟨b, off + (k - 1), none⟩ = some (.int .i64 (l[k-1]'(by omega) : Nat)) := hc (k - 1) (by omega)
      clear hc h4
      go_wp2
      · go_round
        case rel =>
          have hz : ((l[k-1]'(by omega) : Nat) == 0) = true := by simpa using ‹((l[k-1]'(by omega) : Nat) == (0 : Int)) = true›
          refine ⟨k - 1, by omega, rfl, ?_⟩
          rw [← Hs.out, ← strip_take (k := k - 1) (by omega) (by simpa using hz), Nat.sub_add_cancel hk0]
        case measure => simp [lenOf]; omega
      · have hz : ¬ (l[k-1]'(by omega) : Nat) = 0 := by
          have := ‹((l[k-1]'(by omega) : Nat) == (0 : Int)) = false›
          simpa using this
        have hs := strip_take_ne (l := l) (k := k - 1) (by omega) hz
        rw [Nat.sub_add_cancel hk0, Hs.out] at hs
        go_ret
        exact ⟨by rw [hs, List.length_take, Nat.min_eq_left hk]; rfl, rfl⟩
    · obtain rfl : k = 0 := by omega
      have hs : Hid (strip l = []) := by rw [← Hs.out]; rfl
      go_wp2
      go_ret
      exact ⟨by rw [hs.out]; rfl, rfl⟩
theorem rtrim_any (v : Value) (l : List Nat) (w : World) (h : At w .i64 v l) : Calls Tryz.prog 78 #[v] w (RSame .i64 (strip l) w) :=
  (rtrim_val v l w h).mono fun _ _ ⟨he, hw⟩ => ⟨_, he, by subst hw; exact h.strip, hw.symm⟩
end Go.Proofs.YtnfohbpgnbfmeaaGreatDoor
/- elenchusref01.at, Digits. -/
namespace Go.Proofs.YtnfohbpgnbfmeaaGreatDoor
open Go.RowKit Big

set_option maxHeartbeats 400000 in
theorem at_any (v : Value) (l : List Nat) (i : Nat) (w : World) (h : At w .i64 v l) :
    Calls Tryz.prog 79 #[v, .int .i64 (i : Nat)] w fun e w' => e = .returned (.int .i64 (l[i]?.getD 0 : Nat)) ∧ w' = w := by
  obtain ⟨p, cap, rfl, h1, h2, h3, h4⟩ := h
  unfold maxLen at h2
  by_cases hi : i < l.length
  · obtain ⟨b, off, rfl, hb, hc⟩ := h4 (by omega)
    have hck := hc i hi
    have he : Hid (l[i]?.getD 0 = l[i]) := by unfold Hid; simp [hi]
    generalize l[i] = x at *
    clear hc h4
    go_enter Tryz.func79, Tryz.ntmps79
    go_wp2
    go_ret
    exact ⟨by rw [he.out]; rfl, rfl⟩
  · have he : Hid (l[i]?.getD 0 = 0) := by unfold Hid; simp [Nat.le_of_not_lt hi]
    clear h4
    go_enter Tryz.func79, Tryz.ntmps79
    go_wp2
    go_ret
    exact ⟨by rw [he.out]; rfl, rfl⟩

theorem digit_step0 {M : List Nat} {k x V : Nat} (h : M.length = 4 * k + 0) (hv : val D M = V + D ^ (4 * k) * (x % D ^ 0)) : val D (M ++ [x % 65536]) = V + D ^ (4 * k) * (x % D ^ 1) := by
  rw [val_snoc, hv, h, Nat.pow_add]
  have e : x % D ^ 1 = x % D ^ 0 + D ^ 0 * (x % 65536) := by unfold D; omega
  rw [e]; grind
theorem digit_step1 {M : List Nat} {k x V : Nat} (h : M.length = 4 * k + 1) (hv : val D M = V + D ^ (4 * k) * (x % D ^ 1)) : val D (M ++ [x / 65536 % 65536]) = V + D ^ (4 * k) * (x % D ^ 2) := by
  rw [val_snoc, hv, h, Nat.pow_add]
  have e : x % D ^ 2 = x % D ^ 1 + D ^ 1 * (x / 65536 % 65536) := by unfold D; omega
  rw [e]; grind
theorem digit_step2 {M : List Nat} {k x V : Nat} (h : M.length = 4 * k + 2) (hv : val D M = V + D ^ (4 * k) * (x % D ^ 2)) : val D (M ++ [x / 4294967296 % 65536]) = V + D ^ (4 * k) * (x % D ^ 3) := by
  rw [val_snoc, hv, h, Nat.pow_add]
  have e : x % D ^ 3 = x % D ^ 2 + D ^ 2 * (x / 4294967296 % 65536) := by unfold D; omega
  rw [e]; grind
theorem digit_step3 {M : List Nat} {k x V : Nat} (h : M.length = 4 * k + 3) (hv : val D M = V + D ^ (4 * k) * (x % D ^ 3)) : val D (M ++ [x / 281474976710656 % 65536]) = V + D ^ (4 * k) * (x % D ^ 4) := by
  rw [val_snoc, hv, h, Nat.pow_add]
  have e : x % D ^ 4 = x % D ^ 3 + D ^ 3 * (x / 281474976710656 % 65536) := by unfold D; omega
  rw [e]; grind

set_option maxRecDepth 100000 in
set_option maxHeartbeats 1600000 in
theorem Digits_any (v : Value) (l : List Nat) (w : World) (h : At w .u64 v l) (hs : Small W l) (hlen : l.length ≤ 2199023255552) :
    Calls Tryz.prog 61 #[v] w (RAt .i64 (dig D (val W l)) w) := by
  obtain ⟨p, cap, rfl, a1, a2, a3, a4⟩ := h
  unfold maxLen at a2
  go_enter Tryz.func61, Tryz.ntmps61
  go_wp2_with fail
  go_loopw [3, 9] (fun o i wr => ∃ (k : Nat) (L : List Nat), k ≤ l.length ∧ i = .int .i64 (k : Nat) ∧ Own wr w.heap.size 3 .i64 o L ∧ Hid (L.length = 4 * k) ∧ Small D L ∧
      Hid (val D L = val W (l.take k)) ∧ Below w.heap.size w wr) (fun _ i _ => l.length - (intOf i).toNat)
  case atStart => exact ⟨0, [], Nat.zero_le _, rfl, Own.nil _ _ _ _, rfl, small_nil _, rfl, Below.refl _ _⟩
  case round =>
    obtain ⟨k, L, hk, rfl, hown, hLk, hsl, hv, hbel⟩ := hrel
    by_cases hkl : k < l.length
    · obtain ⟨b, off, rfl, hbb, hcell⟩ := a4 (by omega)
      have e0 : wr.cell? ⟨b, off + k, none⟩ = some (.int .u64 (l[k] : Nat)) := (hbel.cell (p := ⟨b, off + k, none⟩) hbb).trans (hcell k hkl)
      have x0 := small_get hs k hkl
      obtain ⟨x, hx⟩ : ∃ x, x = l[k] := ⟨_, rfl⟩
      rw [← hx] at e0 x0
      have Hx := hid hx; clear hx hcell a4
      unfold W at x0
      go_wp2_with fail
      go_loopw [3, 6] (fun o i wq => ∃ (j : Nat) (M : List Nat), j ≤ 4 ∧ i = .int .i64 (j : Nat) ∧ Own wq w.heap.size 3 .i64 o M ∧ Hid (M.length = 4 * k + j) ∧ Small D M ∧
        Hid (val D M = val W (l.take k) + D ^ (4 * k) * (x % D ^ j)) ∧ Below w.heap.size w wq) (fun _ i _ => 4 - (intOf i).toNat)
      case atStart => exact ⟨0, L, Nat.zero_le _, rfl, hown, by unfold Hid at hLk ⊢; omega, hsl, by unfold Hid at hv ⊢; simp [hv, Nat.mod_one], hbel⟩
      case round =>
        obtain ⟨j, M, hj, rfl, hown', hMk, hsM, hvM, hbel'⟩ := hrel
        by_cases hj4 : j < 4
        · rcases (by omega : j = 0 ∨ j = 1 ∨ j = 2 ∨ j = 3) with rfl | rfl | rfl | rfl
          · go_wp2_with (at_builtin; refine wpList_append_at rfl _ _ 99 rfl elemInts w.heap.size _ M rfl (hown'.alloc _) _ [x % 65536] rfl (At.oneI _ _ _ _ _ (by omega)) (by rw [hMk.out]; simp [maxLen]; omega) (by rw [hMk.out]; simp; omega) (by have := hbel'.size; simp; omega) ?_; intro v2 w2 ho2 hb2 hs2)
            go_roundw
            case rel => exact ⟨1, M ++ [x % 65536], by omega, by go_num, ho2, by have := hMk.out; unfold Hid; simp; omega, small_snoc hsM (Nat.mod_lt _ (by decide)),
                digit_step0 hMk.out hvM.out, (hbel'.trans ((below1 _ _).mono hbel'.size)).trans hb2⟩
            case measure => simp [intOf]
          · go_wp2_with (at_builtin; refine wpList_append_at rfl _ _ 99 rfl elemInts w.heap.size _ M rfl (hown'.alloc _) _ [x / 65536 % 65536] rfl (At.oneI _ _ _ _ _ (by omega)) (by rw [hMk.out]; simp [maxLen]; omega) (by rw [hMk.out]; simp; omega) (by have := hbel'.size; simp; omega) ?_; intro v2 w2 ho2 hb2 hs2)
            go_roundw
            case rel => exact ⟨2, M ++ [x / 65536 % 65536], by omega, by go_num, ho2, by have := hMk.out; unfold Hid; simp; omega, small_snoc hsM (Nat.mod_lt _ (by decide)),
                digit_step1 hMk.out hvM.out, (hbel'.trans ((below1 _ _).mono hbel'.size)).trans hb2⟩
            case measure => simp [intOf]
          · go_wp2_with (at_builtin; refine wpList_append_at rfl _ _ 99 rfl elemInts w.heap.size _ M rfl (hown'.alloc _) _ [x / 4294967296 % 65536] rfl (At.oneI _ _ _ _ _ (by omega)) (by rw [hMk.out]; simp [maxLen]; omega) (by rw [hMk.out]; simp; omega) (by have := hbel'.size; simp; omega) ?_; intro v2 w2 ho2 hb2 hs2)
            go_roundw
            case rel => exact ⟨3, M ++ [x / 4294967296 % 65536], by omega, by go_num, ho2, by have := hMk.out; unfold Hid; simp; omega, small_snoc hsM (Nat.mod_lt _ (by decide)),
                digit_step2 hMk.out hvM.out, (hbel'.trans ((below1 _ _).mono hbel'.size)).trans hb2⟩
            case measure => simp [intOf]
          · go_wp2_with (at_builtin; refine wpList_append_at rfl _ _ 99 rfl elemInts w.heap.size _ M rfl (hown'.alloc _) _ [x / 281474976710656 % 65536] rfl (At.oneI _ _ _ _ _ (by omega)) (by rw [hMk.out]; simp [maxLen]; omega) (by rw [hMk.out]; simp; omega) (by have := hbel'.size; simp; omega) ?_; intro v2 w2 ho2 hb2 hs2)
            go_roundw
            case rel => exact ⟨4, M ++ [x / 281474976710656 % 65536], by omega, by go_num, ho2, by have := hMk.out; unfold Hid; simp; omega, small_snoc hsM (Nat.mod_lt _ (by decide)),
                digit_step3 hMk.out hvM.out, (hbel'.trans ((below1 _ _).mono hbel'.size)).trans hb2⟩
            case measure => simp [intOf]
        · obtain rfl : j = 4 := by omega
          have hv4 : Hid (val D M = val W (l.take (k + 1))) := by
            unfold Hid
            rw [hvM.out, val_take_succ W l k hkl, show D ^ (4 * k) = W ^ k by rw [Nat.pow_mul]; rfl, Nat.mod_eq_of_lt (show x < D ^ 4 from x0), Hx.out]
          go_wp2_with fail
          go_roundw
          case rel => exact ⟨k + 1, M, by omega, by go_num, hown', by have := hMk.out; unfold Hid; omega, hsM, hv4, hbel'⟩
          case measure => simp [intOf]; omega
    · obtain rfl : k = l.length := by omega
      have hv' : Hid (strip L = dig D (val W l)) := by
        have := hv.out
        rw [List.take_length] at this
        unfold Hid
        rw [← this, strip_dig D2 hsl]
      clear a4
      go_wp2_with (go_at_call 78; refine (rtrim_any _ L _ hown.at).mono ?_; rintro e w' ⟨v', rfl, hv'', rfl⟩)
      go_ret
      exact ⟨_, rfl, by rw [← hv'.out]; exact hv'', hbel⟩
end Go.Proofs.YtnfohbpgnbfmeaaGreatDoor
/- elenchusref01.From: digits of sixteen bits as words. -/
namespace Go.Proofs.YtnfohbpgnbfmeaaGreatDoor
open Go.RowKit Big

theorem take_next (l : List Nat) (i : Nat) : val D (l.take (i + 4)) = val D (l.take i) + D ^ i * (l[i]?.getD 0 + 65536 * (l[i + 1]?.getD 0 + 65536 * (l[i + 2]?.getD 0 + 65536 * l[i + 3]?.getD 0))) := by
  rw [show i + 4 = i + 3 + 1 by rfl, val_take_getD, show i + 3 = i + 2 + 1 by rfl, val_take_getD, show i + 2 = i + 1 + 1 by rfl, val_take_getD, val_take_getD]
  have h1 : D ^ (i + 1) = D ^ i * 65536 := Nat.pow_succ ..
  have h2 : D ^ (i + 1 + 1) = D ^ i * 65536 * 65536 := by rw [Nat.pow_succ, h1]; rfl
  have h3 : D ^ (i + 1 + 1 + 1) = D ^ i * 65536 * 65536 * 65536 := by rw [Nat.pow_succ, h2]; rfl
  rw [h1, h2, h3]
  grind
theorem from_step {L l : List Nat} {i j x0 x1 x2 x3 : Nat} (hi : i = 4 * j) (hL : L.length = j) (hv : val W L = val D (l.take i))
    (h0 : x0 = l[i]?.getD 0) (h1 : x1 = l[i + 1]?.getD 0) (h2 : x2 = l[i + 2]?.getD 0) (h3 : x3 = l[i + 3]?.getD 0) : val W (L ++ [((x3 * 65536 + x2) * 65536 + x1) * 65536 + x0]) = val D (l.take (i + 4)) := by
  rw [take_next, val_snoc, hv, hL, h0, h1, h2, h3, hi, show D ^ (4 * j) = W ^ j by rw [Nat.pow_mul]; rfl]
  grind

theorem num_eq {k : IntKind} {a b : Int} (h : a = b) : Value.int k a = Value.int k b := by rw [h]

/-- what has been put together of four digits -/
def acc (x0 x1 x2 x3 : Nat) : Nat → Nat
  | 0 => ((x3 * 65536 + x2) * 65536 + x1) * 65536 + x0
  | 1 => (x3 * 65536 + x2) * 65536 + x1
  | 2 => x3 * 65536 + x2
  | 3 => x3
  | _ => 0

set_option maxRecDepth 100000 in
set_option maxHeartbeats 3200000 in
theorem From_any (v : Value) (l : List Nat) (w : World) (h : At w .i64 v l) (hs : Small D l) (hlen : l.length ≤ 8796093022208) :
    Calls Tryz.prog 60 #[v] w (RAt .u64 (dig W (val D l)) w) := by
  have hv0 : val D (strip l) = val D l := by rw [strip_dig D2 hs, val_dig D2]
  have hs' : Small D (strip l) := by rw [strip_dig D2 hs]; exact small_dig D2 _
  have hl' : (strip l).length ≤ 8796093022208 := Nat.le_trans (strip_length l) hlen
  have hlast : strip l = dig D (val D l) := strip_dig D2 hs
  have G := hid (rtrim_any v l w h)
  rw [← hv0] at hlast ⊢
  clear h hlen hs hv0
  generalize strip l = l' at *
  have Hl := hid hlast; clear hlast
  go_enter Tryz.func60, Tryz.ntmps60
  go_wp2_with fail
  refine G.out.mono ?_
  rintro e w' ⟨v', rfl, ⟨p, cap, rfl, a1, a2, a3, a4⟩, rfl⟩
  unfold maxLen at a2
  go_wp2_with fail
  go_loopw [3, 4] (fun o s wr => ∃ (i j : Nat) (L : List Nat), i ≤ l'.length + 3 ∧ Hid (i = 4 * j) ∧ s = .int .i64 (i : Nat) ∧ Own wr w.heap.size 84 .u64 o L ∧ Hid (L.length = j) ∧ j ≤ i ∧ Small W L ∧
      Hid (val W L = val D (l'.take i)) ∧ Below w.heap.size w wr) (fun _ s _ => l'.length + 4 - (intOf s).toNat)
  case atStart => exact ⟨0, 0, [], by omega, rfl, rfl, Own.nil _ _ _ _, rfl, by omega, small_nil _, rfl, Below.refl _ _⟩
  case round =>
    obtain ⟨i, j, L, hi, hij, rfl, hown, hLj, hji, hsl, hv, hbel⟩ := hrel
    by_cases hil : i < l'.length
    · obtain ⟨b, off, rfl, hbb, hcell⟩ := a4 (by omega)
      obtain ⟨x0, hx0⟩ : ∃ x, x = l'[i]?.getD 0 := ⟨_, rfl⟩
      obtain ⟨x1, hx1⟩ : ∃ x, x = l'[i + 1]?.getD 0 := ⟨_, rfl⟩
      obtain ⟨x2, hx2⟩ : ∃ x, x = l'[i + 2]?.getD 0 := ⟨_, rfl⟩
      obtain ⟨x3, hx3⟩ : ∃ x, x = l'[i + 3]?.getD 0 := ⟨_, rfl⟩
      have y0 : x0 < 65536 := by rw [hx0]; exact small_getD hs' (by decide) _
      have y1 : x1 < 65536 := by rw [hx1]; exact small_getD hs' (by decide) _
      have y2 : x2 < 65536 := by rw [hx2]; exact small_getD hs' (by decide) _
      have y3 : x3 < 65536 := by rw [hx3]; exact small_getD hs' (by decide) _
      have cell : ∀ m, i + m < l'.length → wr.cell? ⟨b, off + (i + m), none⟩ = some (.int .i64 (l'[i + m]?.getD 0 : Nat)) := fun m hm => by
        rw [(hbel.cell (p := ⟨b, off + (i + m), none⟩) hbb).trans (hcell (i + m) hm)]; simp [hm]
      have zero : ∀ m, ¬ i + m < l'.length → l'[i + m]?.getD 0 = 0 := fun m hm => by rw [List.getElem?_eq_none (by omega)]; rfl
      have Cell := hid cell
      have Zero := hid zero
      have Hx0 := hid hx0; have Hx1 := hid hx1; have Hx2 := hid hx2; have Hx3 := hid hx3
      clear cell zero hx0 hx1 hx2 hx3 hcell a4
      go_wp2_with fail
      obtain ⟨wo, rfl⟩ : ∃ wo : World, wo = wr := ⟨_, rfl⟩
      go_loopw [5, 6] (fun a s wq => ∃ m : Nat, m ≤ 4 ∧ s = .int .i64 ((m : Int) - 1) ∧ a = .int .u64 (acc x0 x1 x2 x3 m : Nat) ∧ wq = wo) (fun _ s _ => (intOf s + 1).toNat)
      case atStart => exact ⟨4, by omega, rfl, rfl, rfl⟩
      case round =>
        obtain ⟨m, hm, rfl, rfl, rfl⟩ := hrel
        by_cases hm0 : 0 < m
        · rcases (by omega : m = 4 ∨ m = 3 ∨ m = 2 ∨ m = 1) with rfl | rfl | rfl | rfl
          · by_cases hin : i + 3 < l'.length
            · skip
              have c := Cell.out 3 hin
              rw [← Hx3.out] at c
              simp only [acc]
              go_wp2
              go_roundw
              case rel => exact ⟨3, by omega, rfl, num_eq (by first | rfl | omega | (simp only; omega)), by trivial⟩
              case measure => simp [intOf]
            · skip
              have hz : x3 = 0 := by rw [Hx3.out]; exact Zero.out 3 hin
              have Hz := hid hz
              clear hz
              simp only [acc]
              go_wp2
              go_roundw
              case rel => exact ⟨3, by omega, rfl, num_eq (by have := Hz.out; first | omega | (simp only; omega)), by trivial⟩
              case measure => simp [intOf]
          · by_cases hin : i + 2 < l'.length
            · skip
              have c := Cell.out 2 hin
              rw [← Hx2.out] at c
              simp only [acc]
              go_wp2
              go_roundw
              case rel => exact ⟨2, by omega, rfl, num_eq (by first | rfl | omega | (simp only; omega)), by trivial⟩
              case measure => simp [intOf]
            · skip
              have hz : x2 = 0 := by rw [Hx2.out]; exact Zero.out 2 hin
              have Hz := hid hz
              clear hz
              simp only [acc]
              go_wp2
              go_roundw
              case rel => exact ⟨2, by omega, rfl, num_eq (by have := Hz.out; first | omega | (simp only; omega)), by trivial⟩
              case measure => simp [intOf]
          · by_cases hin : i + 1 < l'.length
            · skip
              have c := Cell.out 1 hin
              rw [← Hx1.out] at c
              simp only [acc]
              go_wp2
              go_roundw
              case rel => exact ⟨1, by omega, rfl, num_eq (by first | rfl | omega | (simp only; omega)), by trivial⟩
              case measure => simp [intOf]
            · skip
              have hz : x1 = 0 := by rw [Hx1.out]; exact Zero.out 1 hin
              have Hz := hid hz
              clear hz
              simp only [acc]
              go_wp2
              go_roundw
              case rel => exact ⟨1, by omega, rfl, num_eq (by have := Hz.out; first | omega | (simp only; omega)), by trivial⟩
              case measure => simp [intOf]
          · by_cases hin : i + 0 < l'.length
            · skip
              have c := Cell.out 0 hin
              simp only [Nat.add_zero] at c
              rw [← Hx0.out] at c
              simp only [acc]
              go_wp2
              go_roundw
              case rel => exact ⟨0, by omega, rfl, num_eq (by first | rfl | omega | (simp only; omega)), by trivial⟩
              case measure => simp [intOf]
            · exact absurd hil (by simpa using hin)
        · obtain rfl : m = 0 := by omega
          simp only [acc]
          go_wp2_with (at_builtin; refine wpList_append_at rfl _ _ 33 rfl elemNat w.heap.size _ L rfl (hown.alloc _) _ [((x3 * 65536 + x2) * 65536 + x1) * 65536 + x0] rfl (At.oneI _ _ _ _ _ (by omega)) (by rw [hLj.out]; simp [maxLen]; omega) (by rw [hLj.out]; simp; omega) (by have := hbel.size; simp; omega) ?_; intro v2 w2 ho2 hb2 hs2)
          go_roundw
          case rel => exact ⟨i + 4, j + 1, L ++ [((x3 * 65536 + x2) * 65536 + x1) * 65536 + x0], by omega, by have := hij.out; unfold Hid; omega, by go_num, ho2, by have := hLj.out; unfold Hid; simp; omega, by omega,
            small_snoc hsl (by unfold W; omega), from_step hij.out hLj.out hv.out Hx0.out Hx1.out Hx2.out Hx3.out, (hbel.trans ((below1 _ _).mono hbel.size)).trans hb2⟩
          case measure => simp [intOf]; omega
    · have hv' : Hid (L = dig W (val D l')) := by
        have e := hv.out
        rw [val_take_ge _ _ _ (by omega)] at e
        unfold Hid
        rw [← e]
        refine canon W2 hsl ?_
        by_cases hj0 : j = 0
        · left; exact List.eq_nil_of_length_eq_zero (by rw [hLj.out, hj0])
        · right
          have hne : l' ≠ [] := by
            intro h0; have := hij.out; rw [h0] at hi; simp at hi; omega
          have hlen : l'.length = sz D (val D l') := by unfold sz; rw [← Hl.out]
          have hpos : 0 < val D l' := Nat.pos_of_ne_zero fun e0 => by
            have := Hl.out; rw [e0] at this; exact hne this
          have hp := pow_sz_le D2 hpos
          rw [← hlen] at hp
          rw [e, hLj.out]
          refine Nat.le_trans ?_ hp
          rw [show W ^ (j - 1) = D ^ (4 * (j - 1)) by rw [Nat.pow_mul]; rfl]
          exact Nat.pow_le_pow_right (by decide) (by have := hij.out; omega)
      clear a4 hij hv Hl
      go_wp2
      go_ret
      exact ⟨_, rfl, by rw [← hv'.out]; exact hown.at, hbel⟩
end Go.Proofs.YtnfohbpgnbfmeaaGreatDoor
/- elenchusref01.Whole, Neg. -/
namespace Go.Proofs.YtnfohbpgnbfmeaaGreatDoor
open Go.RowKit Big

theorem sz4 (n : Nat) : sz D n ≤ 4 * sz W n := by
  refine sz_le_of_lt D2 ?_
  have := lt_pow_sz W2 n
  rwa [Nat.pow_mul, show D ^ 4 = W by rfl]

theorem IntAt.whole {w : World} {neg : Bool} {n : Nat} {p : Option Addr} {len c : Nat} (h : At w .u64 (.slice p len c) (dig W n)) :
    IntAt w (.agg #[.bool (neg && decide (0 < len)), .slice p len c]) (sg neg n) := by
  have hl : len = sz W n := by
    obtain ⟨p', c', hv, r⟩ := h
    cases hv; rfl
  refine ⟨_, ?_, by rw [sg_natAbs]; exact h⟩
  by_cases h0 : n = 0
  · subst h0
    rw [sg_zero]
    have : len = 0 := by rw [hl]; rfl
    subst this
    simp
  · rw [sg_neg neg n h0]
    have : 0 < len := by rw [hl]; exact Nat.pos_of_ne_zero fun e => h0 ((sz_eq_zero W2).1 e)
    simp [this]

set_option maxHeartbeats 800000 in
theorem Whole_any (neg : Bool) (v : Value) (l : List Nat) (w : World) (h : At w .u64 v l) (hs : Small W l) (hlen : l.length ≤ 2199023255552) :
    Calls Tryz.prog 40 #[.bool neg, v] w (RInt (sg neg (val W l)) w) := by
  have hd : ∀ o, Calls Tryz.prog 61 #[v] (w.alloc o) (RAt .i64 (dig D (val W l)) (w.alloc o)) := fun o => Digits_any v l _ (h.alloc o) hs hlen
  have hsz : (dig D (val W l)).length ≤ 8796093022208 := by
    have h1 := sz4 (val W l)
    have h2 := sz_val W2 hs
    show sz D (val W l) ≤ _
    omega
  have Hd := hid hd
  have Hsz := hid hsz
  clear hd hsz
  generalize val W l = n at *
  go_enter Tryz.func40, Tryz.ntmps40
  go_wp2_with fail
  refine (Hd.out _).mono ?_
  rintro e w1 ⟨v1, rfl, h1, hb1⟩
  go_wp2_with fail
  refine (From_any v1 _ w1 h1 (small_dig D2 n) Hsz.out).mono ?_
  rintro e w2 ⟨v2, rfl, h2, hb2⟩
  rw [val_dig D2] at h2
  have hpr : Pair w2 w.heap.size 35 := Pair.below (Pair.below (Pair.new ..) hb1) hb2
  obtain ⟨_, _, q0, q1, q2, q3⟩ := hpr.cells
  have z1 : w.heap.size + 1 ≤ w1.heap.size := by have := hb1.size; simp at this; omega
  have bw : Below w.heap.size w w2 := ((below1 _ _).trans (hb1.mono (B' := w.heap.size) (by simp))).trans (hb2.mono (B' := w.heap.size) (by omega))
  obtain ⟨p, c, rfl, -⟩ := id h2
  have hI := IntAt.whole (neg := neg) h2
  have HI := hid hI
  clear hb1 hb2 h1 h2 hI
  generalize (dig W n).length = len at *
  cases neg
  · go_wp2
    exact bodyPost_ret (v := .agg #[.bool false, .slice p len c]) (by simp [results, Tryz.results40, go_sem, q0, q1]) rfl
      ⟨_, rfl, (show IntAt w2 _ _ from HI.out).stored hpr _ _ _ _, Below.stored bw (by omega) _ _⟩
  · by_cases h0 : 0 < len
    · have hx : Hid (decide (0 < len) = true) := by unfold Hid; simpa using h0
      go_wp2
      exact bodyPost_ret (v := .agg #[.bool true, .slice p len c]) (by simp [results, Tryz.results40, go_sem, q0, q1]) rfl
        ⟨_, rfl, (by have := HI.out; rw [hx.out] at this; exact this.stored hpr _ _ _ _), Below.stored bw (by omega) _ _⟩
    · have hx : Hid (decide (0 < len) = false) := by unfold Hid; simpa using h0
      go_wp2
      exact bodyPost_ret (v := .agg #[.bool false, .slice p len c]) (by simp [results, Tryz.results40, go_sem, q0, q1]) rfl
        ⟨_, rfl, (by have := HI.out; rw [hx.out] at this; exact this.stored hpr _ _ _ _), Below.stored bw (by omega) _ _⟩
end Go.Proofs.YtnfohbpgnbfmeaaGreatDoor
/- elenchusref01.plus: sums of digits. -/
namespace Go.Proofs.YtnfohbpgnbfmeaaGreatDoor
open Go.RowKit Big

theorem rplus_step {L l0 l1 : List Nat} {k x y c : Nat} (hl : L.length = k) (hx : x = l0[k]?.getD 0) (hy : y = l1[k]?.getD 0)
    (hv : val D L + c * D ^ k = val D (l0.take k) + val D (l1.take k)) : val D (L ++ [(c + x + y) % 65536]) + (c + x + y) / 65536 * D ^ (k + 1) = val D (l0.take (k + 1)) + val D (l1.take (k + 1)) := by
  rw [val_snoc, val_take_getD, val_take_getD, hl, ← hx, ← hy, Nat.pow_succ]
  exact add_step (by unfold D; omega : x + y + c = (c + x + y) % 65536 + D * ((c + x + y) / 65536)) hv

set_option maxRecDepth 100000 in
set_option maxHeartbeats 1600000 in
theorem rplus_any (v0 v1 : Value) (l0 l1 : List Nat) (w : World) (h0 : At w .i64 v0 l0) (h1 : At w .i64 v1 l1) (s0 : Small D l0) (s1 : Small D l1)
    (hl0 : l0.length ≤ 4398046511104) (hl1 : l1.length ≤ 4398046511104) : Calls Tryz.prog 62 #[v0, v1] w (RAt .i64 (dig D (val D l0 + val D l1)) w) := by
  have g0 : ∀ (k : Nat) W, Below w.heap.size w W → Calls Tryz.prog 79 #[v0, .int .i64 (k : Nat)] W fun e w' => e = .returned (.int .i64 (l0[k]?.getD 0 : Nat)) ∧ w' = W := fun k W hb => at_any v0 l0 k W (h0.below hb)
  have g1 : ∀ (k : Nat) W, Below w.heap.size w W → Calls Tryz.prog 79 #[v1, .int .i64 (k : Nat)] W fun e w' => e = .returned (.int .i64 (l1[k]?.getD 0 : Nat)) ∧ w' = W := fun k W hb => at_any v1 l1 k W (h1.below hb)
  have G0 := hid g0; have G1 := hid g1
  clear g0 g1
  obtain ⟨p0, c0, rfl, a1, a2, a3, -⟩ := h0
  obtain ⟨p1, c1, rfl, b1, b2, b3, -⟩ := h1
  unfold maxLen at a2 b2
  go_enter Tryz.func62, Tryz.ntmps62
  go_wp2_with fail
  go_loopw [5, 6, 7] (fun o c i wr => ∃ (k : Nat) (L : List Nat) (c' : Nat), (k ≤ l0.length ∨ k ≤ l1.length ∨ k ≤ l0.length + 1 ∧ k ≤ l1.length + 1 + l0.length ∧ c' = 0 ∨ (k = l1.length + 1 ∧ c' = 0)) ∧ i = .int .i64 (k : Nat) ∧ c = .int .i64 (c' : Nat) ∧ c' ≤ 1 ∧
      Own wr w.heap.size 3 .i64 o L ∧ Hid (L.length = k) ∧ Small D L ∧ Hid (val D L + c' * D ^ k = val D (l0.take k) + val D (l1.take k)) ∧ Below w.heap.size w wr) (fun _ _ i _ => l0.length + l1.length + 2 - (intOf i).toNat)
  case atStart => exact ⟨0, [], 0, Or.inl (Nat.zero_le _), rfl, rfl, by omega, Own.nil _ _ _ _, rfl, small_nil _, by simp [Hid, val], Below.refl _ _⟩
  case round =>
    obtain ⟨k, L, c', hk, rfl, rfl, hc', hown, hLk, hsl, hv, hbel⟩ := hrel
    obtain ⟨x, hx⟩ : ∃ x, x = l0[k]?.getD 0 := ⟨_, rfl⟩
    obtain ⟨y, hy⟩ : ∃ y, y = l1[k]?.getD 0 := ⟨_, rfl⟩
    have x0 : x < 65536 := by rw [hx]; exact small_getD s0 (by decide) k
    have y0 : y < 65536 := by rw [hy]; exact small_getD s1 (by decide) k
    have t0 := G0.out k wr hbel
    have t1 := G1.out k wr hbel
    rw [← hx] at t0
    rw [← hy] at t1
    have hx0 : l0.length ≤ k → x = 0 := fun h => by rw [hx, List.getElem?_eq_none h]; rfl
    have hy0 : l1.length ≤ k → y = 0 := fun h => by rw [hy, List.getElem?_eq_none h]; rfl
    have T0 := hid t0; have T1 := hid t1
    have Hx := hid hx; have Hy := hid hy
    clear t0 t1 hx hy
    have hk2 : k ≤ l0.length + l1.length + 1 := by omega
    by_cases hgo : k < l0.length ∨ k < l1.length ∨ 0 < c'
    · have hn : (k + 1 ≤ l0.length ∨ k + 1 ≤ l1.length ∨ k + 1 ≤ l0.length + 1 ∧ k + 1 ≤ l1.length + 1 + l0.length ∧ (c' + x + y) / 65536 = 0 ∨ (k + 1 = l1.length + 1 ∧ (c' + x + y) / 65536 = 0)) := by omega
      have Hn := hid hn
      clear hn hk hx0 hy0
      rcases (by omega : k < l0.length ∨ (¬ k < l0.length ∧ k < l1.length) ∨ (¬ k < l0.length ∧ ¬ k < l1.length ∧ 0 < c')) with h | ⟨h, h'⟩ | ⟨h, h', h''⟩
      all_goals
        go_wp2_with fail
        refine T0.out.mono ?_
        rintro e w' ⟨rfl, rfl⟩
        go_wp2_with fail
        refine T1.out.mono ?_
        rintro e w' ⟨rfl, rfl⟩
        go_wp2_with (at_builtin; refine wpList_append_at rfl _ _ 99 rfl elemInts w.heap.size _ L rfl (hown.alloc _) _ [(c' + x + y) % 65536] rfl (At.oneI _ _ _ _ _ (by omega)) (by rw [hLk.out]; simp [maxLen]; omega) (by rw [hLk.out]; simp; omega) (by have := hbel.size; simp; omega) ?_; intro v2 w2 ho2 hb2 hs2)
        go_roundw
        case rel => exact ⟨k + 1, L ++ [(c' + x + y) % 65536], (c' + x + y) / 65536, Hn.out, by go_num, by go_num, by omega, ho2, by have := hLk.out; unfold Hid; simp; omega, small_snoc hsl (Nat.mod_lt _ (by decide)),
          rplus_step hLk.out Hx.out Hy.out hv.out, (hbel.trans ((below1 _ _).mono hbel.size)).trans hb2⟩
        case measure => simp [intOf]; omega
    · have hc0 : c' = 0 := by omega
      subst hc0
      have h : ¬ k < l0.length := by omega
      have h' : ¬ k < l1.length := by omega
      have hv' : Hid (strip L = dig D (val D l0 + val D l1)) := by
        have := hv.out
        rw [val_take_ge _ _ _ (by omega), val_take_ge _ _ _ (by omega), Nat.zero_mul, Nat.add_zero] at this
        unfold Hid
        rw [← this, strip_dig D2 hsl]
      clear hgo hk hx0 hy0
      go_wp2_with (go_at_call 78; refine (rtrim_any _ L _ hown.at).mono ?_; rintro e w' ⟨v', rfl, hv'', rfl⟩)
      go_ret
      exact ⟨_, rfl, by rw [← hv'.out]; exact hv'', hbel⟩
end Go.Proofs.YtnfohbpgnbfmeaaGreatDoor
