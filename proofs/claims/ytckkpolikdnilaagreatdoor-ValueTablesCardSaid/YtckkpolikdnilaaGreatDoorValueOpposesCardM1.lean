/- Texts put together: Big, PlMath, VlMath, Mem, PlSym, Own, Mem2, PlRule, Trim, SmallFns, Plus, Minus, Compare, WholeFns, WholeAdd, PlState, PlRd, PlForm, PlCount, PlSort, PlParts, PlParts2, VlMem, WholeCmp, WholeSum, WholeSub, VlSmall, VlEach, VlTell, VlTold, PlWrong, PlOwn, WholeOwn, Apart, PlOwnTerm, Shelf, PlText0, PlNil. -/
import Derived.Lib.ItoaNum
import Derived.Maps.OwnSet
import Derived.Maps.Views
import Derived.Test.YtckkpolikdnilaaGreatDoorProg
import Derived.WalkKit
import Derived.WalkSpells
import Derived.Deep.QuietTactic
import Derived.BigQuiet
import Derived.WalkSmall
import Derived.Lib.Hide
import Derived.Laws.AppendOwnNone
import Derived.Shelf.Spec.BitsCarry
import Derived.Deep.RegionHeld3
import Derived.Deep.Cut
import Derived.Deep.DeepCutAuto
import Derived.Laws.EntriesVeiled
import Derived.Shelf.Small.Wraps
import Derived.Shelf.Strconv.Itoa0
import Derived.Shelf.Strconv.Itoa1
import Derived.Shelf.LaysM
import Derived.Shelf.Strconv.Itoa2
import Derived.Shelf.Strconv.Clone
import Derived.Shelf.Strconv.AppendUint10
import Derived.Shelf.Strconv.AppendInt10
import Derived.Shelf.Strconv.AppendIntPublic10
/- Plain mathematics of digit lists: the value of a list of digits, its canonical form, and how sums, differences, products and quotients of digits carry. No program is named here. -/
namespace Go.Proofs.YtckkpolikdnilaaGreatDoor.Big

/-- the value of digits, the lowest first -/
def val (B : Nat) : List Nat → Nat
  | [] => 0
  | x :: xs => x + B * val B xs

/-- all digits are below the base -/
def Small (B : Nat) (l : List Nat) : Prop := ∀ x ∈ l, x < B

/-- the digits of a number, with fuel -/
def dg (B : Nat) : Nat → Nat → List Nat
  | 0, _ => []
  | f + 1, n => if n = 0 then [] else (n % B) :: dg B f (n / B)
/-- the digits of a number, none of them above the highest that isn't 0 -/
def dig (B n : Nat) : List Nat := dg B n n
/-- how many digits -/
def sz (B n : Nat) : Nat := (dig B n).length

theorem val_cons (B x : Nat) (l : List Nat) : val B (x :: l) = x + B * val B l := rfl
theorem val_append (B : Nat) (l m : List Nat) : val B (l ++ m) = val B l + B ^ l.length * val B m := by
  induction l with
  | nil => simp [val]
  | cons x l ih => simp only [List.cons_append, val, ih, List.length_cons, Nat.pow_succ]; grind
theorem val_snoc (B : Nat) (l : List Nat) (x : Nat) : val B (l ++ [x]) = val B l + B ^ l.length * x := by
  rw [val_append]; simp [val]
theorem small_nil (B : Nat) : Small B [] := by intro x hx; cases hx
theorem small_cons {B x : Nat} {l : List Nat} (h : x < B) (hl : Small B l) : Small B (x :: l) := by
  intro y hy; cases hy with
  | head => exact h
  | tail _ hy => exact hl y hy
theorem small_append {B : Nat} {l m : List Nat} (hl : Small B l) (hm : Small B m) : Small B (l ++ m) := by
  intro y hy; rcases List.mem_append.1 hy with h | h
  · exact hl y h
  · exact hm y h
theorem small_snoc {B : Nat} {l : List Nat} {x : Nat} (hl : Small B l) (h : x < B) : Small B (l ++ [x]) :=
  small_append hl (small_cons h (small_nil B))
theorem small_take {B : Nat} {l : List Nat} (h : Small B l) (k : Nat) : Small B (l.take k) := fun x hx => h x (List.mem_of_mem_take hx)
theorem small_get {B : Nat} {l : List Nat} (h : Small B l) (i : Nat) (hi : i < l.length) : l[i] < B := h _ (List.getElem_mem hi)
theorem small_getD {B : Nat} {l : List Nat} (h : Small B l) (hB : 0 < B) (i : Nat) : l[i]?.getD 0 < B := by
  cases hx : l[i]? with
  | none => simpa using hB
  | some x => simpa using h x (List.mem_of_getElem? hx)

theorem val_lt {B : Nat} (hB : 0 < B) : ∀ {l : List Nat}, Small B l → val B l < B ^ l.length
  | [], _ => by simp [val]
  | x :: l, h => by
    have h1 : x < B := h x (by simp)
    have h2 := val_lt hB (l := l) fun y hy => h y (by simp [hy])
    simp only [val, List.length_cons, Nat.pow_succ]
    have : B * val B l + B ≤ B ^ l.length * B := by
      rw [Nat.mul_comm (B ^ l.length)]; calc B * val B l + B = B * (val B l + 1) := by grind
        _ ≤ B * B ^ l.length := Nat.mul_le_mul_left _ h2
    omega
theorem val_take_drop (B : Nat) (l : List Nat) (k : Nat) (hk : k ≤ l.length) : val B l = val B (l.take k) + B ^ k * val B (l.drop k) := by
  conv => lhs; rw [← List.take_append_drop k l]
  rw [val_append, List.length_take, Nat.min_eq_left hk]
theorem take_succ' {α : Type} (l : List α) (k : Nat) (h : k < l.length) : l.take (k + 1) = l.take k ++ [l[k]] := by
  rw [List.take_succ_eq_append_getElem h]
theorem val_take_succ (B : Nat) (l : List Nat) (k : Nat) (h : k < l.length) : val B (l.take (k + 1)) = val B (l.take k) + B ^ k * l[k] := by
  rw [take_succ' l k h, val_snoc, List.length_take, Nat.min_eq_left (by omega)]
theorem val_take_ge (B : Nat) (l : List Nat) (k : Nat) (h : l.length ≤ k) : val B (l.take k) = val B l := by rw [List.take_of_length_le h]
/-- one digit more, which may lie beyond the end -/
theorem val_take_getD (B : Nat) (l : List Nat) (k : Nat) : val B (l.take (k + 1)) = val B (l.take k) + B ^ k * l[k]?.getD 0 := by
  by_cases h : k < l.length
  · rw [val_take_succ B l k h]; simp [h]
  · rw [val_take_ge _ _ _ (by omega), val_take_ge _ _ _ (by omega)]; simp [List.getElem?_eq_none (Nat.le_of_not_lt h)]
theorem val_drop_succ (B : Nat) (l : List Nat) (k : Nat) (h : k < l.length) : val B (l.drop k) = l[k] + B * val B (l.drop (k + 1)) := by
  rw [List.drop_eq_getElem_cons h, val_cons]

theorem dg_fuel {B : Nat} (hB : 2 ≤ B) : ∀ (f g n : Nat), n ≤ f → n ≤ g → dg B f n = dg B g n
  | 0, 0, n, _, _ => rfl
  | 0, g + 1, n, h, _ => by have : n = 0 := by omega
                            subst this; simp [dg]
  | f + 1, 0, n, _, h => by have : n = 0 := by omega
                            subst this; simp [dg]
  | f + 1, g + 1, n, h1, h2 => by
    simp only [dg]
    by_cases h : n = 0
    · simp [h]
    · have hd : n / B < n := Nat.div_lt_self (by omega) (by omega)
      simp only [h, if_false]
      rw [dg_fuel hB f g (n / B) (by omega) (by omega)]
theorem dig_zero (B : Nat) : dig B 0 = [] := rfl
theorem dig_pos {B : Nat} (hB : 2 ≤ B) {n : Nat} (h : 0 < n) : dig B n = (n % B) :: dig B (n / B) := by
  have hd : n / B < n := Nat.div_lt_self h (by omega)
  obtain ⟨m, rfl⟩ : ∃ m, n = m + 1 := ⟨n - 1, by omega⟩
  show dg B (m + 1) (m + 1) = _
  simp only [dg]
  rw [if_neg (by omega), dg_fuel hB m ((m + 1) / B) _ (by omega) (Nat.le_refl _)]
  rfl
theorem dig_one {B : Nat} (hB : 2 ≤ B) {n : Nat} (h : 0 < n) (hn : n < B) : dig B n = [n] := by
  rw [dig_pos hB h, Nat.mod_eq_of_lt hn, Nat.div_eq_of_lt hn, dig_zero]
theorem strong {P : Nat → Prop} (h : ∀ n, (∀ m, m < n → P m) → P n) (n : Nat) : P n := Nat.strongRecOn n h
theorem val_dig {B : Nat} (hB : 2 ≤ B) (n : Nat) : val B (dig B n) = n := by
  induction n using strong with
  | h n ih =>
    by_cases h : n = 0
    · subst h; rfl
    · have hd : n / B < n := Nat.div_lt_self (by omega) (by omega)
      rw [dig_pos hB (by omega), val_cons, ih _ hd]
      exact Nat.mod_add_div n B
theorem small_dig {B : Nat} (hB : 2 ≤ B) (n : Nat) : Small B (dig B n) := by
  induction n using strong with
  | h n ih =>
    by_cases h : n = 0
    · subst h; exact small_nil B
    · have hd : n / B < n := Nat.div_lt_self (by omega) (by omega)
      rw [dig_pos hB (by omega)]
      exact small_cons (Nat.mod_lt _ (by omega)) (ih _ hd)
/-- a list without a nought at its end is its number's digits -/
theorem canon_last {B : Nat} (hB : 2 ≤ B) : ∀ {l : List Nat}, Small B l → (∀ h : l ≠ [], l.getLast h ≠ 0) → l = dig B (val B l)
  | [], _, _ => rfl
  | x :: l, hs, hl => by
    have hx : x < B := hs x (by simp)
    have hs' : Small B l := fun y hy => hs y (by simp [hy])
    have hl' : ∀ h : l ≠ [], l.getLast h ≠ 0 := by
      intro h; have := hl (by simp); rwa [List.getLast_cons h] at this
    have ih := canon_last hB hs' hl'
    have hpos : 0 < val B (x :: l) := by
      rw [val_cons]
      by_cases hln : l = []
      · subst hln; have := hl (by simp); simp at this; omega
      · have : val B l ≠ 0 := by
          intro h0; rw [h0] at ih; exact hln (by rw [ih]; rfl)
        have : 0 < B * val B l := Nat.mul_pos (by omega) (by omega)
        omega
    rw [dig_pos hB hpos, val_cons, Nat.add_mul_mod_self_left, Nat.mod_eq_of_lt hx, Nat.add_mul_div_left _ _ (by omega : 0 < B), Nat.div_eq_of_lt hx, Nat.zero_add, ← ih]
theorem canon {B : Nat} (hB : 2 ≤ B) {l : List Nat} (hs : Small B l) (h : l = [] ∨ B ^ (l.length - 1) ≤ val B l) : l = dig B (val B l) := by
  refine canon_last hB hs fun hne h0 => ?_
  rcases h with h | h
  · exact hne h
  · have e : l = l.dropLast ++ [0] := by rw [← h0]; exact (List.dropLast_concat_getLast hne).symm
    have hlt := val_lt (by omega : 0 < B) (l := l.dropLast) (fun y hy => hs y (List.dropLast_subset l hy))
    have e2 : val B l = val B l.dropLast := by rw [e, val_snoc]; simp
    rw [List.length_dropLast] at hlt
    omega
theorem canon_val {B : Nat} (hB : 2 ≤ B) {l : List Nat} {n : Nat} (hs : Small B l) (hv : val B l = n) (h : l = [] ∨ B ^ (l.length - 1) ≤ n) : l = dig B n := by
  subst hv; exact canon hB hs h
/-- equal values, equal digits -/
theorem dig_inj {B : Nat} (hB : 2 ≤ B) {n m : Nat} (h : dig B n = dig B m) : n = m := by
  rw [← val_dig hB n, ← val_dig hB m, h]
theorem dig_eq_nil {B : Nat} (hB : 2 ≤ B) {n : Nat} : dig B n = [] ↔ n = 0 :=
  ⟨fun h => by by_cases h0 : n = 0; exact h0; rw [dig_pos hB (by omega)] at h; simp at h, fun h => by subst h; rfl⟩

theorem sz_zero (B : Nat) : sz B 0 = 0 := rfl
theorem sz_pos {B : Nat} (hB : 2 ≤ B) {n : Nat} (h : 0 < n) : sz B n = sz B (n / B) + 1 := by unfold sz; rw [dig_pos hB h]; simp
theorem sz_eq_zero {B : Nat} (hB : 2 ≤ B) {n : Nat} : sz B n = 0 ↔ n = 0 := by
  unfold sz; rw [List.length_eq_zero_iff]; exact dig_eq_nil hB
theorem lt_pow_sz {B : Nat} (hB : 2 ≤ B) (n : Nat) : n < B ^ sz B n := by
  have := val_lt (by omega : 0 < B) (small_dig hB n); rwa [val_dig hB] at this
theorem pow_sz_le {B : Nat} (hB : 2 ≤ B) {n : Nat} (h : 0 < n) : B ^ (sz B n - 1) ≤ n := by
  induction n using strong with
  | h n ih =>
    by_cases h1 : n / B = 0
    · rw [sz_pos hB h, h1]; simp [sz_zero]; omega
    · have hd : n / B < n := Nat.div_lt_self (by omega) (by omega)
      have := ih _ hd (Nat.pos_of_ne_zero h1)
      have hsz : sz B (n / B) ≠ 0 := fun e => h1 ((sz_eq_zero hB).1 e)
      rw [sz_pos hB h, Nat.add_sub_cancel, show sz B (n / B) = sz B (n / B) - 1 + 1 by omega, Nat.pow_succ]
      calc B ^ (sz B (n / B) - 1) * B ≤ n / B * B := Nat.mul_le_mul_right _ this
        _ ≤ n := Nat.div_mul_le_self n B
theorem sz_le_of_lt {B : Nat} (hB : 2 ≤ B) {n k : Nat} (h : n < B ^ k) : sz B n ≤ k := by
  by_cases h0 : n = 0
  · subst h0; rw [sz_zero]; omega
  · have h1 := pow_sz_le hB (n := n) (by omega)
    have h2 : B ^ (sz B n - 1) < B ^ k := Nat.lt_of_le_of_lt h1 h
    have := (Nat.pow_lt_pow_iff_right (a := B) (by omega)).1 h2
    omega
theorem sz_mono {B : Nat} (hB : 2 ≤ B) {n m : Nat} (h : n ≤ m) : sz B n ≤ sz B m :=
  sz_le_of_lt hB (Nat.lt_of_le_of_lt h (lt_pow_sz hB m))
theorem sz_val {B : Nat} (hB : 2 ≤ B) {l : List Nat} (hs : Small B l) : sz B (val B l) ≤ l.length :=
  sz_le_of_lt hB (val_lt (by omega) hs)
theorem sz_mul {B : Nat} (hB : 2 ≤ B) (n m : Nat) : sz B (n * m) ≤ sz B n + sz B m := by
  by_cases h0 : m = 0
  · subst h0; rw [Nat.mul_zero, sz_zero]; omega
  refine sz_le_of_lt hB ?_
  rw [Nat.pow_add]
  exact Nat.mul_lt_mul_of_lt_of_le (lt_pow_sz hB n) (Nat.le_of_lt (lt_pow_sz hB m)) (Nat.pos_of_ne_zero (by have := lt_pow_sz hB m; omega))
theorem sz_add {B : Nat} (hB : 2 ≤ B) {n m k : Nat} (hn : sz B n ≤ k) (hm : sz B m ≤ k) : sz B (n + m) ≤ k + 1 := by
  refine sz_le_of_lt hB ?_
  have h1 := Nat.lt_of_lt_of_le (lt_pow_sz hB n) (Nat.pow_le_pow_right (by omega : 0 < B) hn)
  have h2 := Nat.lt_of_lt_of_le (lt_pow_sz hB m) (Nat.pow_le_pow_right (by omega : 0 < B) hm)
  rw [Nat.pow_succ]
  have : B ^ k * 2 ≤ B ^ k * B := Nat.mul_le_mul_left _ hB
  omega

/-- order by size: more digits, a greater number -/
theorem lt_of_sz_lt {B : Nat} (hB : 2 ≤ B) {n m : Nat} (h : sz B n < sz B m) : n < m := by
  rcases Nat.lt_or_ge n m with h1 | h1
  · exact h1
  · exact absurd (sz_mono hB h1) (by omega)
/-- what is greater in the highest digit at which two lists part is greater -/
theorem val_lt_of_part {B : Nat} {l m : List Nat} {i : Nat} (hl : Small B l) (hi : i < l.length) (him : i < m.length)
    (hd : l.drop (i + 1) = m.drop (i + 1)) (h : l[i] < m[i]) : val B l < val B m := by
  have hB : 0 < B := Nat.lt_of_le_of_lt (Nat.zero_le _) (small_get hl i hi)
  rw [val_take_drop B l i (by omega), val_take_drop B m i (by omega), val_drop_succ B l i hi, val_drop_succ B m i him, hd]
  have hlt := val_lt hB (small_take hl i)
  rw [List.length_take, Nat.min_eq_left (by omega)] at hlt
  have : B ^ i * (l[i] + 1) ≤ B ^ i * m[i] := Nat.mul_le_mul_left _ h
  grind

/-- the strokes of a sum -/
theorem add_step {B x y c s c' P v va vb : Nat} (h : x + y + c = s + B * c') (hv : v + c * P = va + vb) : (v + P * s) + c' * (P * B) = (va + P * x) + (vb + P * y) := by grind
/-- the strokes of a difference -/
theorem sub_step {B x y c s c' P v va vb : Nat} (h : x + B * c' = s + y + c) (hv : v + vb = va + c * P) : (v + P * s) + (vb + P * y) = (va + P * x) + c' * (P * B) := by grind

/-- without the noughts at the end -/
def strip : List Nat → List Nat
  | [] => []
  | x :: l => match strip l with
    | [] => if x = 0 then [] else [x]
    | y :: m => x :: y :: m
theorem strip_dig {B : Nat} (hB : 2 ≤ B) : ∀ {l : List Nat}, Small B l → strip l = dig B (val B l)
  | [], _ => rfl
  | x :: l, hs => by
    have hx : x < B := hs x (by simp)
    have ih := strip_dig hB (l := l) fun y hy => hs y (by simp [hy])
    simp only [strip]
    by_cases h0 : val B l = 0
    · rw [ih, h0, dig_zero]
      simp only [val_cons, h0, Nat.mul_zero, Nat.add_zero]
      by_cases hx0 : x = 0
      · subst hx0; rfl
      · simp only [if_neg hx0]; rw [dig_one hB (by omega) hx]
    · have hne : dig B (val B l) ≠ [] := fun e => h0 ((dig_eq_nil hB).1 e)
      have hpos : 0 < val B (x :: l) := by
        rw [val_cons]; have : 0 < B * val B l := Nat.mul_pos (by omega) (by omega)
        omega
      rw [dig_pos hB hpos, val_cons, Nat.add_mul_mod_self_left, Nat.mod_eq_of_lt hx, Nat.add_mul_div_left _ _ (by omega : 0 < B), Nat.div_eq_of_lt hx, Nat.zero_add, ih]
      cases hh : dig B (val B l) with
      | nil => exact absurd hh hne
      | cons y m => rfl
theorem strip_snoc_zero (l : List Nat) : strip (l ++ [0]) = strip l := by
  induction l with
  | nil => rfl
  | cons x l ih => simp only [List.cons_append, strip, ih]
theorem strip_snoc {l : List Nat} {x : Nat} (h : x ≠ 0) : strip (l ++ [x]) = l ++ [x] := by
  induction l with
  | nil => simp [strip, h]
  | cons y l ih =>
    simp only [List.cons_append, strip, ih]
    cases l <;> rfl
/-- what trim takes off, one at a time -/
theorem strip_take {l : List Nat} {k : Nat} (hk : k < l.length) (h : l[k] = 0) : strip (l.take (k + 1)) = strip (l.take k) := by
  rw [take_succ' l k hk, h, strip_snoc_zero]
theorem strip_take_ne {l : List Nat} {k : Nat} (hk : k < l.length) (h : l[k] ≠ 0) : strip (l.take (k + 1)) = l.take (k + 1) := by
  rw [take_succ' l k hk, strip_snoc h]
theorem strip_length (l : List Nat) : (strip l).length ≤ l.length := by
  induction l with
  | nil => simp [strip]
  | cons x l ih =>
    simp only [strip]
    cases h : strip l with
    | nil => by_cases hx : x = 0 <;> simp [hx]
    | cons y m => rw [h] at ih; simp at ih ⊢; omega

/-- the two bases of the texts: words of 64 bits, halves of 32, digits of 16 -/
def W : Nat := 18446744073709551616
def H : Nat := 4294967296
def D : Nat := 65536
theorem W2 : 2 ≤ W := by decide
theorem H2 : 2 ≤ H := by decide
theorem D2 : 2 ≤ D := by decide

end Go.Proofs.YtckkpolikdnilaaGreatDoor.Big
/- Layer 4 in plain words: rules, terms, what may be wrong with one, the text of a term's fields (two terms with one text are one), a map from texts to numbers. -/
namespace Go.Proofs.YtckkpolikdnilaaGreatDoor
open Go.Proofs.YtckkpolikdnilaaGreatDoor.Big

structure Sy where
  name : List UInt8
  arity : Int
  sort : Int
/-- a term: its number as a number, whatever its form -/
structure Tm where
  op : Int
  args : List Int
  num : Int
  sym : Int
instance : DecidableEq Tm := fun a b => decidable_of_iff (a.op = b.op ∧ a.args = b.args ∧ a.num = b.num ∧ a.sym = b.sym) (by cases a; cases b; simp)
structure Ru where
  least : Int
  most : Int
  part : Int
  sort : Int
  num : Bool
  sym : Bool
structure Po where
  syms : List Sy
  terms : List Tm
  sorts : List Int

def plRule (op : Int) : Option Ru :=
  if op = 1 ∨ op = 2 then some ⟨0, 0, 0, 1, false, false⟩
  else if op = 3 then some ⟨0, 0, 0, 2, true, false⟩
  else if op = 4 then some ⟨0, 0, 2, 0, false, true⟩
  else if op = 5 then some ⟨1, 1, 1, 1, false, false⟩
  else if op = 6 ∨ op = 7 then some ⟨2, 64, 1, 1, false, false⟩
  else if op = 8 then some ⟨2, 2, 1, 1, false, false⟩
  else if op = 9 then some ⟨3, 3, 1, 0, false, false⟩
  else if op = 10 ∨ op = 11 then some ⟨2, 2, 2, 1, false, false⟩
  else if op = 12 then some ⟨2, 64, 2, 2, false, false⟩
  else if op = 13 then some ⟨1, 1, 2, 2, true, false⟩
  else none
def plRu (op : Int) : Ru := (plRule op).getD ⟨0, 0, 0, 0, false, false⟩
def plBadSym (s : Sy) : Bool := s.name.isEmpty || decide (s.arity < 0) || decide (4 < s.arity) || (s.sort != 1 && s.sort != 2)
def plBadForm (t : Tm) : Bool := (plRule t.op).isNone || (!(plRu t.op).num && t.num != 0) || (!(plRu t.op).sym && t.sym != 0)
def plNoSym (p : Po) (t : Tm) : Bool := t.op == 4 && (decide (t.sym < 0) || decide ((p.syms.length : Int) ≤ t.sym))
def plNoTerm (p : Po) (n : Int) : Bool := decide (n < 0) || decide ((p.terms.length : Int) ≤ n)
def plNoPart (p : Po) (t : Tm) : Bool := t.args.any (plNoTerm p)
def plSymAt (p : Po) (k : Int) : Sy := p.syms[k.toNat]?.getD ⟨[], 0, 0⟩
def plSortAt (p : Po) (k : Int) : Int := p.sorts[k.toNat]?.getD 0
def plBadCount (p : Po) (t : Tm) : Bool := if t.op = 4 then (t.args.length : Int) != (plSymAt p t.sym).arity else decide ((t.args.length : Int) < (plRu t.op).least) || decide ((plRu t.op).most < t.args.length)
def plPart (p : Po) (t : Tm) (i : Nat) : Int := if t.op = 9 ∧ 0 < i then plSortAt p (t.args[1]?.getD 0) else (plRu t.op).part
def plBadSort (p : Po) (t : Tm) : Bool := t.args.zipIdx.any fun a => plSortAt p a.1 != plPart p t a.2
def plSort (p : Po) (t : Tm) : Int := if t.op = 4 then (plSymAt p t.sym).sort else if t.op = 9 then plSortAt p (t.args[1]?.getD 0) else (plRu t.op).sort
def plWrong (p : Po) (t : Tm) : Int := if plBadForm t then 6 else if plNoSym p t then 7 else if plNoPart p t then 1 else if plBadCount p t then 9 else if plBadSort p t then 8 else 0
def plFind (l : List Tm) (t : Tm) : Option Nat := l.findIdx? (fun x => decide (x = t))
def plMake (p : Po) (t : Tm) : Po × Int × Int :=
  if plWrong p t ≠ 0 then (p, 0, plWrong p t) else
  match plFind p.terms t with
  | some k => (p, k, 0)
  | none => if p.terms.length = 4096 then (p, 0, 11) else (⟨p.syms, p.terms ++ [t], p.sorts ++ [plSort p t]⟩, p.terms.length, 0)
def plDeclare (p : Po) (s : Sy) : Po × Int × Int :=
  if plBadSym s then (p, 0, 6) else if p.syms.any (fun x => x.name == s.name) then (p, 0, 7) else if p.syms.length = 256 then (p, 0, 11) else (⟨p.syms ++ [s], p.terms, p.sorts⟩, p.syms.length, 0)

/-! ### the text of a term's fields -/
def plFields (t : Tm) : List Int := [t.op, t.sym, t.num.sign, ((sz W t.num.natAbs : Nat) : Int)] ++ t.args
def spaced (l : List (List UInt8)) : List UInt8 := l.flatMap fun x => 32 :: x
def plTokens (t : Tm) : List (List UInt8) := (plFields t).map Lib.itoa ++ (dig W t.num.natAbs).map Lib.decDigits
def plText (t : Tm) : List UInt8 := spaced (plTokens t)

theorem dec_ne (u : Nat) : ∀ c ∈ Lib.decDigits u, 48 ≤ c.toNat ∧ c.toNat ≤ 57 := by
  induction u using Nat.strongRecOn with
  | _ u ih =>
    intro c hc
    rw [Lib.decDigits] at hc
    split at hc
    · simp at hc; subst hc; simp [UInt8.toNat_ofNat']; omega
    · rcases List.mem_append.1 hc with h | h
      · exact ih _ (by omega) c h
      · simp at h; subst h; simp [UInt8.toNat_ofNat']; omega
theorem dec_none (u : Nat) : Lib.decDigits u ≠ [] := by
  intro h
  have h1 := Lib.decDigits_length u
  have h2 := Lib.nDigits_pos u
  rw [h] at h1
  simp at h1
  omega
theorem ofNat_inj {a b : Nat} (ha : a < 10) (hb : b < 10) (h : UInt8.ofNat (48 + a) = UInt8.ofNat (48 + b)) : a = b := by
  have := congrArg UInt8.toNat h
  simp [UInt8.toNat_ofNat'] at this
  omega
theorem dec_inj : ∀ (u v : Nat), Lib.decDigits u = Lib.decDigits v → u = v := by
  intro u
  induction u using Nat.strongRecOn with
  | _ u ih =>
    intro v h
    rw [Lib.decDigits, Lib.decDigits.eq_def v] at h
    split at h <;> split at h
    · exact ofNat_inj (by omega) (by omega) (List.cons.inj h).1
    · have := congrArg List.length h
      have h2 := List.length_pos_iff.2 (dec_none (v / 10))
      rw [List.length_append] at this
      simp only [List.length_singleton] at this
      omega
    · have := congrArg List.length h
      have h2 := List.length_pos_iff.2 (dec_none (u / 10))
      rw [List.length_append] at this
      simp only [List.length_singleton] at this
      omega
    · have h2 := List.append_inj' h rfl
      have h3 := ih _ (by omega) _ h2.1
      have h5 := ofNat_inj (by omega) (by omega) (List.cons.inj h2.2).1
      omega
theorem itoa_signs (i : Int) : ∀ c ∈ Lib.itoa i, c ≠ 32 := by
  intro c hc e
  subst e
  unfold Lib.itoa at hc
  split at hc
  · rcases List.mem_cons.1 hc with h | h
    · revert h; decide
    · have := dec_ne _ _ h; revert this; decide
  · have := dec_ne _ _ hc; revert this; decide
theorem dec_signs (u : Nat) : ∀ c ∈ Lib.decDigits u, c ≠ 32 := by
  intro c hc e
  subst e
  have := dec_ne _ _ hc; revert this; decide
theorem dec_minus (u : Nat) (l : List UInt8) : Lib.decDigits u ≠ 45 :: l := by
  intro h
  have := dec_ne u 45 (by rw [h]; simp)
  revert this; decide
theorem itoa_inj (i j : Int) (h : Lib.itoa i = Lib.itoa j) : i = j := by
  unfold Lib.itoa at h
  split at h <;> split at h
  · have := dec_inj _ _ (List.cons.inj h).2; omega
  · exact absurd h.symm (dec_minus _ _)
  · exact absurd h (dec_minus _ _)
  · have := dec_inj _ _ h; omega
theorem spaced_inj : ∀ (l m : List (List UInt8)), (∀ x ∈ l, ∀ c ∈ x, c ≠ 32) → (∀ x ∈ m, ∀ c ∈ x, c ≠ 32) → spaced l = spaced m → l = m
  | [], [], _, _, _ => rfl
  | [], y :: m, _, _, h => by simp [spaced] at h
  | x :: l, [], _, _, h => by simp [spaced] at h
  | x :: l, y :: m, hl, hm, h => by
    have hx := hl x (by simp)
    have hy := hm y (by simp)
    simp only [spaced, List.flatMap_cons, List.cons_append, List.cons.injEq, true_and] at h
    have key : ∀ (a b s t : List UInt8), (∀ c ∈ a, c ≠ 32) → (∀ c ∈ b, c ≠ 32) → (∀ c r, s = c :: r → c = 32) → (∀ c r, t = c :: r → c = 32) → a ++ s = b ++ t → a = b ∧ s = t := by
      intro a
      induction a with
      | nil =>
        intro b s t _ hb hs ht e
        cases b with
        | nil => exact ⟨rfl, e⟩
        | cons c b => exact absurd (hs c (b ++ t) e) (hb c (by simp))
      | cons c a ih =>
        intro b s t ha hb hs ht e
        cases b with
        | nil => exact absurd (ht c (a ++ s) e.symm) (ha c (by simp))
        | cons d b =>
          simp only [List.cons_append, List.cons.injEq] at e
          obtain ⟨h1, h2⟩ := ih b s t (fun c hc => ha c (List.mem_cons_of_mem _ hc)) (fun c hc => hb c (List.mem_cons_of_mem _ hc)) hs ht e.2
          exact ⟨by rw [e.1, h1], h2⟩
    have front : ∀ (l : List (List UInt8)) c r, spaced l = c :: r → c = 32 := by
      intro l c r e
      cases l with
      | nil => simp [spaced] at e
      | cons y l => simp [spaced] at e; exact e.1.symm
    obtain ⟨h1, h2⟩ := key x y (spaced l) (spaced m) hx hy (front l) (front m) h
    rw [h1, spaced_inj l m (fun z hz => hl z (List.mem_cons_of_mem _ hz)) (fun z hz => hm z (List.mem_cons_of_mem _ hz)) h2]
theorem tokens_signs (t : Tm) : ∀ x ∈ plTokens t, ∀ c ∈ x, c ≠ 32 := by
  intro x hx
  rcases List.mem_append.1 hx with h | h
  · obtain ⟨i, _, rfl⟩ := List.mem_map.1 h
    exact itoa_signs i
  · obtain ⟨i, _, rfl⟩ := List.mem_map.1 h
    exact dec_signs i
theorem map_inj {α β : Type} (f : α → β) (hf : ∀ a b, f a = f b → a = b) : ∀ (l m : List α), l.map f = m.map f → l = m
  | [], [], _ => rfl
  | [], _ :: _, h => by simp at h
  | _ :: _, [], h => by simp at h
  | a :: l, b :: m, h => by simp at h; rw [hf a b h.1, map_inj f hf l m (by simpa using h.2)]
theorem plText_inj (a b : Tm) (h : plText a = plText b) : a = b := by
  have h1 := spaced_inj _ _ (tokens_signs a) (tokens_signs b) h
  simp only [plTokens, plFields, List.map_cons, List.cons_append, List.nil_append, List.cons.injEq] at h1
  obtain ⟨e1, e2, e3, e4, e5⟩ := h1
  have e1 := itoa_inj _ _ e1
  have e2 := itoa_inj _ _ e2
  have e3 := itoa_inj _ _ e3
  have e4 := itoa_inj _ _ e4
  have e6 : ((dig W a.num.natAbs).map Lib.decDigits).length = ((dig W b.num.natAbs).map Lib.decDigits).length := by simp; unfold sz at e4; omega
  obtain ⟨e7, e8⟩ := List.append_inj' e5 e6
  have e7 := map_inj _ itoa_inj _ _ e7
  have e8 := dig_inj W2 (map_inj _ dec_inj _ _ e8)
  have e9 : a.num = b.num := by
    have ha := Int.sign_mul_natAbs a.num
    have hb := Int.sign_mul_natAbs b.num
    rw [← ha, ← hb, e3, e8]
  cases a; cases b
  simp_all

/-! ### a map from texts to numbers: the place of each in a list -/
variable {H : Type}
def mapD (l : List (List UInt8)) : DataW H := (l.zipIdx).foldl (fun D p => D.put (.string p.1) (.lit (.int .i64 (p.2 : Nat)))) (.map [])
theorem mapD_snoc (l : List (List UInt8)) (x : List UInt8) : (mapD (l ++ [x]) : DataW H) = (mapD l).put (.string x) (.lit (.int .i64 (l.length : Nat))) := by
  simp [mapD, List.zipIdx_append, List.foldl_append]
theorem snoc_ind {α : Type} {P : List α → Prop} (h0 : P []) (h1 : ∀ l x, P l → P (l ++ [x])) (l : List α) : P l := by
  have : ∀ n (l : List α), l.length = n → P l := by
    intro n
    induction n with
    | zero => intro l hl; rw [List.length_eq_zero_iff.1 hl]; exact h0
    | succ n ih =>
      intro l hl
      have hne : l ≠ [] := by intro e; subst e; simp at hl
      rw [← List.dropLast_concat_getLast hne]
      exact h1 _ _ (ih _ (by simp [hl]))
  exact this _ l rfl
theorem mapD_isMap (l : List (List UInt8)) : Maps.IsMap (mapD l : DataW H) := by
  induction l using snoc_ind with
  | h0 => exact ⟨[], rfl⟩
  | h1 l x ih => rw [mapD_snoc]; exact ih.put _ _
theorem mapD_has (l : List (List UInt8)) (x : List UInt8) : Maps.has (mapD l : DataW H) (.string x) = l.contains x := by
  induction l using snoc_ind with
  | h0 => rfl
  | h1 l y ih =>
    rw [mapD_snoc]
    by_cases h : y = x
    · subst h
      rw [Maps.has_put_same (mapD_isMap l) (by trivial)]
      simp
    · rw [Maps.has_put_other (by intro e; injection e with e; exact h e.symm), ih]
      simp
      intro e
      exact absurd e.symm h
theorem mapD_at (l : List (List UInt8)) (hn : l.Nodup) (k : Nat) (hk : k < l.length) (z : DataW H) : (mapD l : DataW H).atKey (.string l[k]) z = .lit (.int .i64 (k : Nat)) := by
  induction l using snoc_ind with
  | h0 => simp at hk
  | h1 l y ih =>
    rw [mapD_snoc]
    have hn' := List.nodup_append.1 hn
    by_cases h : k = l.length
    · subst h
      rw [show (l ++ [y])[l.length] = y by simp, Maps.atKey_put_same (mapD_isMap l) (by trivial)]
    · have hk' : k < l.length := by simp at hk; omega
      rw [show (l ++ [y])[k] = l[k] by simp [hk'], Maps.atKey_put_other, ih hn'.1 hk']
      intro e
      injection e with e
      exact hn'.2.2 _ (List.getElem_mem hk') y (by simp) e

end Go.Proofs.YtckkpolikdnilaaGreatDoor
/- Layer 5 in plain words: tables, what a symbol tells, terms' values. -/
namespace Go.Proofs.YtckkpolikdnilaaGreatDoor

/-- a table: its rows, and what it tells else -/
structure Tb5 where
  rows : List (List Int × Int)
  els : Int
def vlTruth (b : Bool) : Int := if b then 1 else 0
def vlFind (rows : List (List Int × Int)) (args : List Int) : Option Nat := rows.findIdx? (fun x => decide (args = x.1))
def vlVal (t : Tb5) (args : List Int) : Int := match vlFind t.rows args with
  | some i => (t.rows[i]?.map (·.2)).getD 0
  | none => t.els
def vlTell (sort : Int) (t : Tb5) (args : List Int) : Int := if sort = 1 then vlTruth (vlVal t args != 0) else vlVal t args
def vlTabAt (ts : List Tb5) (k : Int) : Tb5 := ts[k.toNat]?.getD ⟨[], 0⟩
def vlAt (known : List Int) (k : Int) : Int := known[k.toNat]?.getD 0
def vlSum : List Int → Int
  | [] => 0
  | x :: l => x + vlSum l
/-- what an Op makes of its parts' values, as the program does it -/
def vlOp (syms : List Sy) (ts : List Tb5) (t : Tm) (l : List Int) : Int :=
  if t.op = 1 ∨ t.op = 6 then vlTruth (l.all (· != 0))
  else if t.op = 2 ∨ t.op = 7 then vlTruth (l.any (· != 0))
  else if t.op = 3 then t.num
  else if t.op = 4 then vlTell ((syms[t.sym.toNat]?.getD ⟨[], 0, 0⟩).sort) (vlTabAt ts t.sym) l
  else if t.op = 5 then vlTruth (vlAt l 0 == 0)
  else if t.op = 8 ∨ t.op = 10 then vlTruth (decide (vlAt l 0 = vlAt l 1))
  else if t.op = 9 then (if vlAt l 0 ≠ 0 then vlAt l 1 else vlAt l 2)
  else if t.op = 11 then vlTruth (decide (vlAt l 0 ≤ vlAt l 1))
  else if t.op = 12 then vlSum l
  else t.num * vlAt l 0
def vlParts (t : Tm) (known : List Int) : List Int := t.args.map (vlAt known)
def vlEval (syms : List Sy) (ts : List Tb5) : List Tm → List Int → List Int
  | [], known => known
  | t :: l, known => vlEval syms ts l (known ++ [vlOp syms ts t (vlParts t known)])

theorem vlFind_none {rows : List (List Int × Int)} {args : List Int} (h : ∀ i, i < rows.length → ∀ x, rows[i]? = some x → args ≠ x.1) : vlFind rows args = none := by
  unfold vlFind
  rw [List.findIdx?_eq_none_iff]
  intro x hx
  obtain ⟨i, hi, rfl⟩ := List.mem_iff_getElem.1 hx
  exact decide_eq_false (h i hi _ (by simp [hi]))
theorem vlFind_some {rows : List (List Int × Int)} {args : List Int} {i : Nat} (hi : i < rows.length) (he : args = (rows[i]'hi).1) (h : ∀ j (hj : j < i), args ≠ (rows[j]'(by omega)).1) : vlFind rows args = some i := by
  unfold vlFind
  rw [List.findIdx?_eq_some_iff_getElem]
  exact ⟨hi, decide_eq_true he, fun j hj => by simpa using h j hj⟩
theorem vlEval_snoc (syms : List Sy) (ts : List Tb5) : ∀ (l : List Tm) (known : List Int) (t : Tm), vlEval syms ts (l ++ [t]) known = vlEval syms ts l known ++ [vlOp syms ts t (vlParts t (vlEval syms ts l known))]
  | [], _, _ => rfl
  | _ :: l, _, t => vlEval_snoc syms ts l _ t
theorem vlEval_len (syms : List Sy) (ts : List Tb5) : ∀ (l : List Tm) (known : List Int), (vlEval syms ts l known).length = known.length + l.length
  | [], known => rfl
  | x :: l, known => by
    show (vlEval syms ts l _).length = _
    rw [vlEval_len syms ts l]
    simp; omega
theorem vlSum_snoc : ∀ (l : List Int) (x : Int), vlSum (l ++ [x]) = vlSum l + x
  | [], x => by simp [vlSum]
  | y :: l, x => by
    show y + vlSum (l ++ [x]) = y + vlSum l + x
    rw [vlSum_snoc l x]; omega
end Go.Proofs.YtckkpolikdnilaaGreatDoor
/- How a slice of unsigned or signed numbers reads in memory: At w k v l says that the value v is a slice whose elements, of integer kind k, are the numbers l. -/
namespace Go.Proofs.YtckkpolikdnilaaGreatDoor
open Go.RowKit

/-- a fact that the walk does not take for a rule -/
theorem hid {p : Prop} (h : p) : Hid p := h

/-- the slice v holds the numbers l -/
def At (w : World) (k : IntKind) (v : Value) (l : List Nat) : Prop :=
  ∃ p cap, v = .slice p l.length cap ∧ l.length ≤ cap ∧ cap ≤ maxLen ∧ (p = none → cap = 0) ∧
    (0 < l.length → ∃ b off, p = some ⟨b, off, none⟩ ∧ b < w.heap.size ∧ ∀ i (h : i < l.length), w.cell? ⟨b, off + i, none⟩ = some (.int k (l[i]'h : Nat)))

theorem At.nil (w : World) (k : IntKind) : At w k (.slice none 0 0) [] := ⟨none, 0, rfl, by simp, by simp [maxLen], fun _ => rfl, fun h => absurd h (by simp)⟩
theorem At.below {w w' : World} {k : IntKind} {v : Value} {l : List Nat} (h : At w k v l) (hb : Below w.heap.size w w') : At w' k v l := by
  obtain ⟨p, cap, hv, h1, h2, h3, h4⟩ := h
  refine ⟨p, cap, hv, h1, h2, h3, fun hp => ?_⟩
  obtain ⟨b, off, h5, h6, h7⟩ := h4 hp
  exact ⟨b, off, h5, Nat.lt_of_lt_of_le h6 hb.size, fun i hi => (hb.cell (p := ⟨b, off + i, none⟩) h6).trans (h7 i hi)⟩
/-- a cut at the end -/
theorem At.take {w : World} {k : IntKind} {p : Option Addr} {n cap : Nat} {l : List Nat} (h : At w k (.slice p n cap) l) (m : Nat) (hm : m ≤ l.length) : At w k (.slice p m cap) (l.take m) := by
  obtain ⟨p', cap', hv, h1, h2, h3, h4⟩ := h
  cases hv
  refine ⟨p, cap, by simp [Nat.min_eq_left hm], by simp; omega, h2, h3, fun hp => ?_⟩
  rw [List.length_take, Nat.min_eq_left hm] at hp
  obtain ⟨b, off, h5, h6, h7⟩ := h4 (by omega)
  exact ⟨b, off, h5, h6, fun i hi => by rw [h7 i (by simp at hi; omega)]; simp⟩

/-- what a call answers: a slice of numbers l; memory that was there stays -/
def RAt (k : IntKind) (l : List Nat) (w : World) (e : Ending) (w' : World) : Prop := ∃ v', e = .returned v' ∧ At w' k v' l ∧ Below w.heap.size w w'
/-- likewise, nothing having turned -/
def RSame (k : IntKind) (l : List Nat) (w : World) (e : Ending) (w' : World) : Prop := ∃ v', e = .returned v' ∧ At w' k v' l ∧ w = w'
/-- a whole number by its sign and size -/
def sg (neg : Bool) (n : Nat) : Int := if neg then -(n : Int) else n
/-- a whole number as it is told -/
def IntAt (w : World) (v : Value) (z : Int) : Prop := ∃ s, v = .agg #[.bool (decide (z < 0)), s] ∧ At w .u64 s (Big.dig Big.W z.natAbs)
def RInt (z : Int) (w : World) (e : Ending) (w' : World) : Prop := ∃ v, e = .returned v ∧ IntAt w' v z ∧ Below w.heap.size w w'
/-- a whole number as it is handed in -/
def RawAt (w : World) (v : Value) (z : Int) : Prop := ∃ neg s l, v = .agg #[.bool neg, s] ∧ At w .u64 s l ∧ Big.Small Big.W l ∧ l.length ≤ 1099511627776 ∧ z = sg neg (Big.val Big.W l)
def RBool (b : Bool) (w : World) (e : Ending) (w' : World) : Prop := e = .returned (.bool b) ∧ Below w.heap.size w w'
def RNum (k : IntKind) (n : Int) (w : World) (e : Ending) (w' : World) : Prop := e = .returned (.int k n) ∧ Below w.heap.size w w'
theorem IntAt.below {w w' : World} {v : Value} {z : Int} (h : IntAt w v z) (hb : Below w.heap.size w w') : IntAt w' v z := by
  obtain ⟨s, hs, ha⟩ := h
  exact ⟨s, hs, ha.below hb⟩
theorem RawAt.below {w w' : World} {v : Value} {z : Int} (h : RawAt w v z) (hb : Below w.heap.size w w') : RawAt w' v z := by
  obtain ⟨neg, s, l, hs, ha, r⟩ := h
  exact ⟨neg, s, l, hs, ha.below hb, r⟩
theorem sg_natAbs (neg : Bool) (n : Nat) : (sg neg n).natAbs = n := by unfold sg; cases neg <;> simp
theorem sg_neg (neg : Bool) (n : Nat) (h : n ≠ 0) : decide (sg neg n < 0) = neg := by unfold sg; cases neg <;> simp <;> omega
theorem sg_zero (neg : Bool) : sg neg 0 = 0 := by unfold sg; cases neg <;> simp
theorem IntAt.zero (w : World) : IntAt w (.agg #[.bool false, .slice none 0 0]) 0 := ⟨_, by simp, At.nil w .u64⟩
theorem IntAt.mk {w : World} {neg : Bool} {s : Value} {n : Nat} (h0 : n ≠ 0) (h : At w .u64 s (Big.dig Big.W n)) : IntAt w (.agg #[.bool neg, s]) (sg neg n) :=
  ⟨s, by rw [sg_neg neg n h0], by rw [sg_natAbs]; exact h⟩
/-- a fresh cell of its own -/
theorem At.one (w : World) (k : IntKind) (x : Nat) (t : TypeId) : At (w.alloc (.cells #[.int k x] t)) k (.slice (some ⟨w.heap.size, 0, none⟩) 1 1) [x] :=
  ⟨_, 1, rfl, by simp, by simp [maxLen], fun h => (by cases h), fun _ => ⟨_, _, rfl, by simp, fun i hi => by
    obtain rfl : i = 0 := by simp at hi; omega
    simp [go_sem]⟩⟩
theorem below1 (w : World) (o : Obj) : Below w.heap.size w (w.alloc o) := (Below.refl _ _).alloc (Nat.le_refl _) o
def lenOf : Value → Nat | .slice _ n _ => n | _ => 0

theorem quiet_add_same {P : Program} {f : FuncId} {args : Array Value} {w : World} {a n : Nat} {v : Value}
    (h : Calls P f args (w.drewN (a + n)) fun e w' => e = .returned v ∧ w' = w.drewN (a + n)) :
    Calls P f args (w.drewN (a + n)) fun e w'' => e = .returned v ∧ ∃ m, w'' = w.drewN (a + m) :=
  h.mono fun _ _ ⟨he, hm⟩ => ⟨he, n, hm⟩
theorem At.drew {w : World} {k : IntKind} {v : Value} {l : List Nat} (h : At w k v l) : At w.drew k v l := h
theorem At.alloc {w : World} {k : IntKind} {v : Value} {l : List Nat} (h : At w k v l) (o : Obj) : At (w.alloc o) k v l := h.below (below1 w o)
/-- a slice cut behind its first m elements -/
def cutTo (v : Value) (m : Nat) : Value := match v with | .slice p _ c => .slice p m c | v => v
theorem At.cut {w : World} {k : IntKind} {v : Value} {l : List Nat} (h : At w k v l) (m : Nat) (hm : m ≤ l.length) : At w k (cutTo v m) (l.take m) := by
  have h' := h
  obtain ⟨p, cap, rfl, r⟩ := h'
  exact h.take m hm
theorem At.drewN {w : World} {k : IntKind} {v : Value} {l : List Nat} (h : At w k v l) (n : Nat) : At (w.drewN n) k v l := h

end Go.Proofs.YtckkpolikdnilaaGreatDoor
/- pool.isNoSymbol: which symbol may not be. -/
namespace Go.Proofs.YtckkpolikdnilaaGreatDoor
open Go.RowKit

def Sy.val (s : Sy) : Value := .agg #[.string ⟨s.name.toArray⟩, .int .i64 s.arity, .int .i64 s.sort]
set_option maxRecDepth 100000 in
set_option maxHeartbeats 3200000 in
theorem isNoSymbol_any (s : Sy) (w : World) : Calls Tryz.prog 69 #[s.val] w fun e w' => e = .returned (.bool (plBadSym s)) ∧ Below w.heap.size w w' := by
  obtain ⟨nm, ar, so⟩ := s
  unfold Sy.val
  dsimp only
  have hn : ((⟨nm.toArray⟩ : ByteArray) == ⟨#[]⟩) = nm.isEmpty := by cases nm <;> rfl
  obtain ⟨r, hr⟩ : ∃ r, r = plBadSym ⟨nm, ar, so⟩ := ⟨_, rfl⟩
  rw [← hr]
  have Hr := hid hr
  clear hr
  go_enter Tryz.func69, Tryz.ntmps69
  go_wp2
  all_goals
    go_ret
    refine ⟨?_, by first | exact below1 _ _ | exact (below1 _ _).drew⟩
    have Hr := Hr.out
    rw [Hr]
    unfold plBadSym
    simp_all
end Go.Proofs.YtckkpolikdnilaaGreatDoor
/- Slices of numbers that a call has made itself: what append and make do with them. -/
namespace Go.Proofs.YtckkpolikdnilaaGreatDoor
open Go.RowKit Big

/-- t is the type of slices of e, the integers of kind k, of so many bytes -/
structure Elem (P : Program) (t e : TypeId) (k : IntKind) (size : Nat) : Prop where
  und : P.underlying t = some (.slice e)
  row : ∃ i, P.info? e = some i ∧ i.zero = some (.int k 0) ∧ i.size = 1 ∧ i.bytes = size
def ints (k : IntKind) (l : List Nat) : List Value := l.map fun x => Value.int k (x : Nat)
/-- v holds the numbers l in a row of the call's own, from block base on -/
def Own (w : World) (base : Nat) (e : TypeId) (k : IntKind) (v : Value) (l : List Nat) : Prop := w.ownsRow base e 1 v l.length (ints k l)

theorem ints_length (k : IntKind) (l : List Nat) : (ints k l).length = l.length := by simp [ints]
theorem ints_append (k : IntKind) (l m : List Nat) : ints k (l ++ m) = ints k l ++ ints k m := by simp [ints]
theorem Own.nil (w : World) (base : Nat) (e : TypeId) (k : IntKind) : Own w base e k (.slice none 0 0) [] := World.ownsRow_nil w base e 1
theorem Own.at {w : World} {base : Nat} {e : TypeId} {k : IntKind} {v : Value} {l : List Nat} (h : Own w base e k v l) : At w k v l := by
  have h' := h
  unfold Own at h'
  rcases h'.2 with ⟨rfl, h0⟩ | ⟨g, cap, cur, rfl, _, hg, hn, hm, _, _⟩
  · obtain rfl := List.eq_nil_of_length_eq_zero h0
    exact At.nil w k
  · refine ⟨_, cap, rfl, hn, hm, fun h => (by cases h), fun _ => ⟨g, 0, rfl, (Array.getElem?_eq_some_iff.1 hg).1, fun i hi => ?_⟩⟩
    have := World.ownsRow.cellAt h' i (by omega)
    rw [Nat.zero_add, this]
    simp [ints, hi]
theorem Own.kept {w w' : World} {base : Nat} {e : TypeId} {k : IntKind} {v : Value} {l : List Nat} (h : Own w base e k v l) (hb : Below w.heap.size w w') : Own w' base e k v l := by
  refine ⟨h.1, ?_⟩
  rcases h.2 with hn | ⟨g, cap, cur, rfl, h1, hg, r⟩
  · exact Or.inl hn
  · exact Or.inr ⟨g, cap, cur, rfl, h1, by rw [hb.block g (Array.getElem?_eq_some_iff.1 hg).1]; exact hg, r⟩
theorem Own.alloc {w : World} {base : Nat} {e : TypeId} {k : IntKind} {v : Value} {l : List Nat} (h : Own w base e k v l) (o : Obj) : Own (w.alloc o) base e k v l := h.kept (below1 w o)
theorem Own.mono {w : World} {base base' : Nat} {e : TypeId} {k : IntKind} {v : Value} {l : List Nat} (h : Own w base e k v l) (hb : base' ≤ base) : Own w base' e k v l := by
  refine ⟨h.1, ?_⟩
  rcases h.2 with hn | ⟨g, cap, cur, rfl, h1, r⟩
  · exact Or.inl hn
  · exact Or.inr ⟨g, cap, cur, rfl, Nat.le_trans hb h1, r⟩
/-- a row that is written is one of the call's own -/
theorem Own.row {w : World} {base : Nat} {e : TypeId} {k : IntKind} {v : Value} {l : List Nat} (h : Own w base e k v l) : ∀ g, v.ownBlock = some g → base ≤ g := fun g hg => (World.ownsRow.lt h g hg).1
/-- a cut at the end -/
theorem Own.take {w : World} {base : Nat} {e : TypeId} {k : IntKind} {p : Option Addr} {n cap : Nat} {l : List Nat} (h : Own w base e k (.slice p n cap) l) (m : Nat) (hm : m ≤ l.length) : Own w base e k (.slice p m cap) (l.take m) := by
  have hl : (l.take m).length = m := by simp [Nat.min_eq_left hm]
  unfold Own at h ⊢
  rw [hl]
  refine ⟨by simp [ints_length, hl], ?_⟩
  rcases h.2 with ⟨h1, h2⟩ | ⟨g, c, cur, h1, h2, h3, h4, h5, h6, h7⟩
  · cases h1; exact Or.inl ⟨by rw [show m = 0 by omega], by omega⟩
  · cases h1
    refine Or.inr ⟨g, cap, cur, rfl, h2, h3, by omega, h5, h6, ?_⟩
    have : (ints k l).take m = ints k (l.take m) := by simp [ints, List.map_take]
    rw [← this, ← h7, List.take_take]
    congr 1; omega

/-- what a call answers: a slice of numbers l in memory of its own -/
def ROwn (e : TypeId) (k : IntKind) (l : List Nat) (w : World) (en : Ending) (w' : World) : Prop := ∃ v', en = .returned v' ∧ Own w' w.heap.size e k v' l ∧ Below w.heap.size w w'
theorem elemNat : Elem Tryz.prog 42 94 .u64 8 := ⟨Tryz.underlying42, info_parts (by kernel_rfl)⟩
theorem elemInts : Elem Tryz.prog 69 3 .i64 8 := ⟨Tryz.underlying69, info_parts (by kernel_rfl)⟩
theorem elemHalves : Elem Tryz.prog 163 176 .u32 4 := ⟨Tryz.underlying163, info_parts (by kernel_rfl)⟩

section
variable {P : Program} {w : World} {ops : Array Oper} {rest : List Oper} {o : Oper} {a : Act} {Q : Exit → Act → World → Prop}

/-- 'append(v, x...)': v the call's own, x whatever slice of numbers -/
theorem wpList_append_at (hgd : o.guard = none) (s x : Operand) (t : TypeId)
    (ho : o.op = .call { callee := .builtin .append, args := #[s, x], argTypes := #[t, t] })
    {e : TypeId} {k : IntKind} {size : Nat} (E : Elem P t e k size) (base : Nat) (v : Value) (l : List Nat) (hs : a.eval s = v) (hown : Own w base e k v l)
    (vx : Value) (m : List Nat) (hx : a.eval x = vx) (hat : At w k vx m)
    (hlen : l.length + m.length ≤ maxLen) (hbytes : (l.length + m.length) * size ≤ 140737488355328) (hbase : base ≤ w.heap.size)
    (h : ∀ v' w', Own w' base e k v' (l ++ m) → Below base w w' → w.heap.size ≤ w'.heap.size → wpList P ops Q rest (a.put o.dst v') w') : wpList P ops Q (o :: rest) a w := by
  obtain ⟨i, hi, hz, hsz, hby⟩ := E.row
  obtain ⟨p, cap, rfl, h1, h2, h3, h4⟩ := hat
  cases p with
  | none =>
    obtain rfl := h3 rfl
    obtain rfl : m = [] := List.eq_nil_of_length_eq_zero (by omega)
    exact wpList_append_own_none hgd s x t ho base e i 1 E.und hi v l.length (ints k l) hs hown hx (h _ _ (by rw [List.append_nil]; exact hown) (Below.refl _ _) (Nat.le_refl _))
  | some ad =>
    refine wpList_append_own w hgd s x t ho base e i (.int k 0) 1 size E.und hi hz hsz hby rfl (by decide) v l.length (ints k l) hs hown ad m.length cap (ints k m) hx (by simp [ints_length]) ?_ ?_ hlen hbytes hbase ?_
    · intro j u hj
      by_cases hjm : j < m.length
      · obtain ⟨b, off, he, hb, hc⟩ := h4 (by omega)
        cases he
        rw [Go.WideShapes.add_plain, hc j hjm]
        simpa [ints, hjm] using hj
      · rw [List.getElem?_eq_none (by rw [ints_length]; omega)] at hj; cases hj
    · intro u hu
      obtain ⟨n, _, rfl⟩ := List.mem_map.1 hu
      rfl
    · intro v' w' h5 h6 _
      refine h v' w' ?_ ((Below.refl _ _).grown h6 hbase hown.row) h6.size
      unfold Own
      rw [List.length_append, ints_append]; exact h5

/-- 'make([]T, 0, n)' -/
theorem wpList_make_at (hg : o.guard = none) (l c : Operand) (t : TypeId) (hop : o.op = Op.makeSlice t l c)
    {e : TypeId} {k : IntKind} {size : Nat} (E : Elem P t e k size) (base : Nat)
    (kl kc : IntKind) (C : Int) (n : Nat) (hl : a.eval l = .int kl 0) (hc : a.eval c = .int kc C) (hC : C = (n : Int)) (b2 : size * n ≤ 281474976710656) (b3 : n ≤ maxLen) (b4 : base ≤ w.heap.size)
    (hK : ∀ v w', Own w' base e k v [] → Below base w w' → w.heap.size ≤ w'.heap.size → v = (.slice (some ⟨w.heap.size, 0, none⟩) 0 n) → wpList P ops Q rest (a.put o.dst v) w') :
    wpList P ops Q (o :: rest) a w := by
  obtain ⟨i, hi, hz, hsz, hby⟩ := E.row
  subst hby
  exact wpList_make_own w hg l c t hop base e i (.int k 0) 1 E.und hi hz hsz kl kc C n hl hc hC b2 b3 b4 fun w' h1 h2 => hK _ w' h1 ((Below.refl _ _).grown h2 b4 (fun _ h => by cases h)) h2.size rfl

/-- 'make([]T, n)' -/
theorem wpList_full_at (hg : o.guard = none) (l c : Operand) (t : TypeId) (hop : o.op = Op.makeSlice t l c)
    {e : TypeId} {k : IntKind} {size : Nat} (E : Elem P t e k size) (base : Nat)
    (kl kc : IntKind) (L C : Int) (n : Nat) (hl : a.eval l = .int kl L) (hc : a.eval c = .int kc C) (hL : L = (n : Int)) (hC : C = (n : Int)) (b2 : size * n ≤ 281474976710656) (b3 : n ≤ maxLen) (b4 : base ≤ w.heap.size)
    (hK : ∀ v w', Own w' base e k v (List.replicate n 0) → Below base w w' → w.heap.size ≤ w'.heap.size → v = (.slice (some ⟨w.heap.size, 0, none⟩) n n) → wpList P ops Q rest (a.put o.dst v) w') :
    wpList P ops Q (o :: rest) a w := by
  obtain ⟨i, hi, hz, hsz, hby⟩ := E.row
  subst hby
  refine wpList_make_full w hg l c t hop base e i (.int k 0) 1 E.und hi hz hsz kl kc L C n hl hc hL hC b2 b3 b4 fun w' h1 h2 => hK _ w' ?_ ((Below.refl _ _).grown h2 b4 (fun _ h => by cases h)) h2.size rfl
  unfold Own
  rw [List.length_replicate]
  have e1 : (madeCells (Value.int k 0).cells (n * 1)).toList = ints k (List.replicate n 0) := by
    rw [Nat.mul_one]
    show (madeCells #[Value.int k 0] n).toList = _
    rw [toList_madeCells_one]
    simp [ints]
  rw [← e1]; exact h1
end

end Go.Proofs.YtckkpolikdnilaaGreatDoor
/- Small facts on new blocks. -/
namespace Go.Proofs.YtckkpolikdnilaaGreatDoor
open Go.RowKit Big
theorem size_alloc (w : World) (o : Obj) : (w.alloc o).heap.size = w.heap.size + 1 := by simp
theorem heap_new2 (w : World) (o1 o2 : Obj) : ((w.alloc o1).alloc o2).drew.heap[w.heap.size + 1]? = some o2 := by
  have := heap_alloc_new (w.alloc o1) o2
  rwa [size_alloc] at this
theorem two_cells {w : World} {g : Nat} {a b : Value} {t : TypeId} (h : w.heap[g]? = some (.cells #[a, b] t (0, 0))) :
    w.cell? ⟨g, 0, none⟩ = some a ∧ w.cell? ⟨g, 1, none⟩ = some b ∧ w.frozen? ⟨g, 0, none⟩ = false ∧ w.frozen? ⟨g, 1, none⟩ = false :=
  ⟨by rw [cell_of_row w g 0 _ t (0, 0) h]; rfl, by rw [cell_of_row w g 1 _ t (0, 0) h]; rfl, frozen_of_row w g 0 _ t h, frozen_of_row w g 1 _ t h⟩
/-- block g is a variable that holds a whole number: a bool and a slice -/
def Pair (w : World) (g : Nat) (t : TypeId) : Prop := ∃ x p n c, w.heap[g]? = some (.cells #[.bool x, .slice p n c] t (0, 0))
theorem Pair.cells {w : World} {g : Nat} {t : TypeId} (h : Pair w g t) : ∃ a b, w.cell? ⟨g, 0, none⟩ = some a ∧ w.cell? ⟨g, 1, none⟩ = some b ∧ w.frozen? ⟨g, 0, none⟩ = false ∧ w.frozen? ⟨g, 1, none⟩ = false := by
  obtain ⟨x, p, n, c, h⟩ := h
  exact ⟨_, _, two_cells h⟩
theorem Pair.below {w w' : World} {g : Nat} {t : TypeId} (h : Pair w g t) (hb : Below w.heap.size w w') : Pair w' g t := by
  obtain ⟨x, p, n, c, h⟩ := h
  exact ⟨x, p, n, c, (hb.block g (Array.getElem?_eq_some_iff.1 h).1).trans h⟩
theorem Pair.lt {w : World} {g : Nat} {t : TypeId} (h : Pair w g t) : g < w.heap.size := by
  obtain ⟨x, p, n, c, h⟩ := h
  exact (Array.getElem?_eq_some_iff.1 h).1
theorem Pair.set0 {w : World} {g : Nat} {t : TypeId} (h : Pair w g t) (x : Bool) : Pair (w.setCell ⟨g, 0, none⟩ (.bool x)) g t := by
  obtain ⟨y, p, n, c, h⟩ := h
  exact ⟨x, p, n, c, heap_setCell_same w g 0 _ t _ h⟩
theorem Pair.set1 {w : World} {g : Nat} {t : TypeId} (h : Pair w g t) (p : Option Addr) (n c : Nat) : Pair (w.setCell ⟨g, 1, none⟩ (.slice p n c)) g t := by
  obtain ⟨y, p', n', c', h⟩ := h
  exact ⟨y, p, n, c, heap_setCell_same w g 1 _ t _ h⟩
theorem Pair.drew {w : World} {g : Nat} {t : TypeId} (h : Pair w g t) : Pair w.drew g t := h
theorem Pair.new (w : World) (x : Bool) (p : Option Addr) (n c : Nat) (t : TypeId) : Pair (w.alloc (.cells #[.bool x, .slice p n c] t)) w.heap.size t := ⟨x, p, n, c, heap_alloc_new w _⟩
theorem Pair.new1 (w : World) (o : Obj) (x : Bool) (p : Option Addr) (n c : Nat) (t : TypeId) : Pair ((w.alloc o).alloc (.cells #[.bool x, .slice p n c] t)) (w.heap.size + 1) t := by
  have := Pair.new (w.alloc o) x p n c t
  rwa [size_alloc] at this
theorem Pair.new2 (w : World) (o o' : Obj) (x : Bool) (p : Option Addr) (n c : Nat) (t : TypeId) : Pair (((w.alloc o).alloc o').alloc (.cells #[.bool x, .slice p n c] t)) (w.heap.size + 2) t := by
  have := Pair.new ((w.alloc o).alloc o') x p n c t
  rwa [size_alloc, size_alloc] at this
/-- a store into such a variable turns no slice of numbers -/
theorem At.set {w : World} {k : IntKind} {v : Value} {l : List Nat} {g : Nat} {t : TypeId} (h : At w k v l) (hp : Pair w g t) (j : Nat) (u : Value) : At (w.setCell ⟨g, j, none⟩ u) k v l := by
  obtain ⟨p, cap, hv, h1, h2, h3, h4⟩ := h
  refine ⟨p, cap, hv, h1, h2, h3, fun hl => ?_⟩
  obtain ⟨b, off, h5, h6, h7⟩ := h4 hl
  have hne : b ≠ g := by
    rintro rfl
    obtain ⟨x, q, n, c, hh⟩ := hp
    have h0 := h7 0 hl
    rw [cell_of_row w b (off + 0) _ t (0, 0) hh] at h0
    rcases (by omega : off = 0 ∨ off = 1 ∨ 2 ≤ off) with e | e | e
    · subst e; simp at h0
    · subst e; simp at h0
    · rw [Array.getElem?_eq_none (by simpa using e)] at h0; cases h0
  refine ⟨b, off, h5, by simpa [World.setCell] using h6, fun i hi => ?_⟩
  rw [← h7 i hi]
  exact World.cell?_of_block (w := w) (Below.heap_setCell w _ u b hne)
theorem At.stored {w : World} {k : IntKind} {v : Value} {l : List Nat} {g : Nat} {t : TypeId} (h : At w k v l) (hp : Pair w g t) (x : Bool) (p : Option Addr) (n c : Nat) :
    At ((w.setCell ⟨g, 0, none⟩ (.bool x)).setCell ⟨g, 1, none⟩ (.slice p n c)) k v l := (h.set hp 0 _).set (hp.set0 x) 1 _
theorem IntAt.stored {w : World} {v : Value} {z : Int} {g : Nat} {t : TypeId} (h : IntAt w v z) (hp : Pair w g t) (x : Bool) (p : Option Addr) (n c : Nat) :
    IntAt ((w.setCell ⟨g, 0, none⟩ (.bool x)).setCell ⟨g, 1, none⟩ (.slice p n c)) v z := by
  obtain ⟨s, hs, ha⟩ := h
  exact ⟨s, hs, ha.stored hp x p n c⟩
theorem Below.stored {B : Nat} {w w' : World} (h : Below B w w') {g : Nat} (hg : B ≤ g) (u u' : Value) : Below B w ((w'.setCell ⟨g, 0, none⟩ u).setCell ⟨g, 1, none⟩ u') :=
  (h.setCell (p := ⟨g, 0, none⟩) hg u).setCell (p := ⟨g, 1, none⟩) hg u'
theorem IntAt.shape {w : World} {v : Value} {z : Int} (h : IntAt w v z) : ∃ p n c, v = .agg #[.bool (decide (z < 0)), .slice p n c] ∧ IntAt w (.agg #[.bool (decide (z < 0)), .slice p n c]) z := by
  obtain ⟨s, rfl, p, c, rfl, r⟩ := h
  exact ⟨p, _, c, rfl, _, rfl, p, c, rfl, r⟩
theorem At.oneI (w : World) (k : IntKind) (e : Int) (x : Nat) (t : TypeId) (h : e = (x : Int)) : At (w.alloc (.cells #[.int k e] t)) k (.slice (some ⟨w.heap.size, 0, none⟩) 1 1) [x] := by
  subst h; exact At.one w k x t
theorem cell_stored (w : World) {g : Nat} {p : Addr} (h : p.block ≠ g) (u u' : Value) : ((w.setCell ⟨g, 0, none⟩ u).setCell ⟨g, 1, none⟩ u').cell? p = w.cell? p :=
  World.cell?_of_block (w := w) ((Below.heap_setCell _ _ _ _ h).trans (Below.heap_setCell _ _ _ _ h))
/-- the cells of two variables that a call has laid for its arguments -/
structure Two (w : World) (g : Nat) (a b c d : Value) : Prop where
  c00 : w.cell? ⟨g, 0, none⟩ = some a
  c01 : w.cell? ⟨g, 1, none⟩ = some b
  c10 : w.cell? ⟨g + 1, 0, none⟩ = some c
  c11 : w.cell? ⟨g + 1, 1, none⟩ = some d
  lt : g + 2 ≤ w.heap.size
theorem Two.new (w : World) (a b c d : Value) (t : TypeId) : Two ((w.alloc (.cells #[a, b] t)).alloc (.cells #[c, d] t)) w.heap.size a b c d := by
  have h0 : ((w.alloc (.cells #[a, b] t)).alloc (.cells #[c, d] t)).heap[w.heap.size]? = some (.cells #[a, b] t (0, 0)) := by
    rw [heap_alloc_old _ _ (by simp)]; exact heap_alloc_new w _
  have h1 : ((w.alloc (.cells #[a, b] t)).alloc (.cells #[c, d] t)).heap[w.heap.size + 1]? = some (.cells #[c, d] t (0, 0)) := heap_new2 w _ _
  exact ⟨(two_cells h0).1, (two_cells h0).2.1, (two_cells h1).1, (two_cells h1).2.1, by simp⟩
theorem Two.below {w w' : World} {g : Nat} {a b c d : Value} (h : Two w g a b c d) (hb : Below w.heap.size w w') : Two w' g a b c d :=
  ⟨(hb.cell (p := ⟨g, 0, none⟩) (by have := h.lt; show g < _; omega)).trans h.c00, (hb.cell (p := ⟨g, 1, none⟩) (by have := h.lt; show g < _; omega)).trans h.c01,
   (hb.cell (p := ⟨g + 1, 0, none⟩) (by have := h.lt; show g + 1 < _; omega)).trans h.c10, (hb.cell (p := ⟨g + 1, 1, none⟩) (by have := h.lt; show g + 1 < _; omega)).trans h.c11, Nat.le_trans h.lt hb.size⟩
end Go.Proofs.YtckkpolikdnilaaGreatDoor
/- pool.ruleOf: what an Op asks. -/
namespace Go.Proofs.YtckkpolikdnilaaGreatDoor
open Go.RowKit

def Ru.val (r : Ru) : Value := .agg #[.int .i64 r.least, .int .i64 r.most, .int .i64 r.part, .int .i64 r.sort, .bool r.num, .bool r.sym]
def RRule (op : Int) (w : World) (e : Ending) (w' : World) : Prop := e = .returned (.tuple #[(plRu op).val, .bool (plRule op).isSome]) ∧ Below w.heap.size w w'
theorem six_cells {w : World} {g : Nat} {a b c d e f : Value} {t : TypeId} (h : w.heap[g]? = some (.cells #[a, b, c, d, e, f] t (0, 0))) :
    w.cell? ⟨g, 0, none⟩ = some a ∧ w.cell? ⟨g, 1, none⟩ = some b ∧ w.cell? ⟨g, 2, none⟩ = some c ∧ w.cell? ⟨g, 3, none⟩ = some d ∧ w.cell? ⟨g, 4, none⟩ = some e ∧ w.cell? ⟨g, 5, none⟩ = some f := by
  simp [World.cell?, h]
set_option maxRecDepth 100000 in
set_option maxHeartbeats 6400000 in
theorem ruleOf_any (op : Int) (w : World) : Calls Tryz.prog 116 #[.int .i64 op] w (RRule op w) := by
  go_enter Tryz.func116, Tryz.ntmps116
  go_wp2
  all_goals
    refine bodyPost_ret (v := .tuple #[(plRu op).val, .bool (plRule op).isSome]) ?_ rfl ⟨rfl, below1 _ _⟩
    simp only [beq_iff_eq, beq_eq_false_iff_ne, ne_eq] at *
    first
      | (simp [results, Tryz.results116, go_sem, World.cell?_alloc_new, plRu, plRule, Ru.val, *]; done)
      | trace_state
end Go.Proofs.YtckkpolikdnilaaGreatDoor
/- whole.trim: what is left is the digits without the noughts at the end. -/
namespace Go.Proofs.YtckkpolikdnilaaGreatDoor
open Go.RowKit Big

set_option maxHeartbeats 400000 in
theorem trim_val (v : Value) (l : List Nat) (w : World) (h : At w .u64 v l) :
    Calls Tryz.prog 88 #[v] w (fun e w' => e = .returned (cutTo v (strip l).length) ∧ w' = w) := by
  obtain ⟨p, cap, rfl, h1, h2, h3, h4⟩ := h
  unfold maxLen at h2
  go_enter Tryz.func88, Tryz.ntmps88
  go_wp2
  go_loop [0] (fun s => ∃ k : Nat, k ≤ l.length ∧ s = .slice p k cap ∧ strip (l.take k) = strip l) (fun s => lenOf s)
  case atStart => exact ⟨l.length, Nat.le_refl _, rfl, by rw [List.take_length]⟩
  case round =>
    obtain ⟨k, hk, rfl, hs⟩ := hrel
    have Hs := hid hs; clear hs
    by_cases hk0 : 0 < k
    · obtain ⟨b, off, rfl, hb, hc⟩ := h4 (by omega)
      have hck : w.cell? ⟨b, off + (k - 1), none⟩ = some (.int .u64 (l[k-1]'(by omega) : Nat)) := hc (k - 1) (by omega)
      clear hc h4
      go_wp2
      · go_round
        case rel =>
          have hz : ((l[k-1]'(by omega) : Nat) == 0) = true := by simpa using ‹((l[k-1]'(by omega) : Nat) == (0 : Int)) = true›
          refine ⟨k - 1, by omega, rfl, ?_⟩
          rw [← Hs.out, ← strip_take (k := k - 1) (by omega) (by simpa using hz), Nat.sub_add_cancel hk0]
        case measure => simp [lenOf]; omega
      · have hz : ¬ (l[k-1]'(by omega) : Nat) = 0 := by
          have := ‹((l[k-1]'(by omega) : Nat) == (0 : Int)) = false›
          simpa using this
        have hs := strip_take_ne (l := l) (k := k - 1) (by omega) hz
        rw [Nat.sub_add_cancel hk0, Hs.out] at hs
        go_ret
        exact ⟨by rw [hs, List.length_take, Nat.min_eq_left hk]; rfl, rfl⟩
    · obtain rfl : k = 0 := by omega
      have hs : Hid (strip l = []) := by rw [← Hs.out]; rfl
      go_wp2
      go_ret
      exact ⟨by rw [hs.out]; rfl, rfl⟩
theorem strip_is_take (l : List Nat) : strip l = l.take (strip l).length := by
  induction l with
  | nil => rfl
  | cons x l ih =>
    simp only [strip]
    cases h : strip l with
    | nil => by_cases hx : x = 0 <;> simp [hx]
    | cons y m =>
      rw [h] at ih
      simp only [List.length_cons] at ih ⊢
      rw [List.take_succ_cons, ← ih]
theorem At.strip {w : World} {k : IntKind} {v : Value} {l : List Nat} (h : At w k v l) : At w k (cutTo v (strip l).length) (strip l) := by
  have := h.cut (Big.strip l).length (strip_length l)
  rwa [← strip_is_take] at this
theorem trim_any (v : Value) (l : List Nat) (w : World) (h : At w .u64 v l) : Calls Tryz.prog 88 #[v] w (RSame .u64 (strip l) w) :=
  (trim_val v l w h).mono fun _ _ ⟨he, hw⟩ => ⟨_, he, by subst hw; exact h.strip, hw.symm⟩
end Go.Proofs.YtckkpolikdnilaaGreatDoor
/- whole's small functions: told, ownWord, word, own. -/
namespace Go.Proofs.YtckkpolikdnilaaGreatDoor
open Go.RowKit Big

set_option maxHeartbeats 400000 in
theorem told_any (neg : Bool) (s : Value) (n : Nat) (w : World) (h : At w .u64 s (dig W n)) :
    Calls Tryz.prog 58 #[.bool neg, s] w (RInt (sg neg n) w) := by
  have hat := hid h
  obtain ⟨p, cap, rfl, h1, h2, h3, h4⟩ := h
  unfold maxLen at h2
  clear h4
  by_cases h0 : (dig W n).length = 0
  · have hn : n = 0 := (dig_eq_nil W2).1 (List.eq_nil_of_length_eq_zero h0)
    have Hn := hid hn; clear hn
    go_enter Tryz.func58, Tryz.ntmps58
    go_wp2
    exact bodyPost_ret (v := .agg #[.bool false, .slice none 0 0]) (by simp [results, Tryz.results58, go_sem]) rfl ⟨_, rfl, by rw [Hn.out, sg_zero]; exact IntAt.zero _, below1 _ _⟩
  · have hn : n ≠ 0 := fun e => h0 (by rw [e]; rfl)
    have Hn := hid hn; clear hn
    go_enter Tryz.func58, Tryz.ntmps58
    go_wp2
    exact bodyPost_ret (v := .agg #[.bool neg, .slice p (dig W n).length cap]) (by simp [results, Tryz.results58, go_sem]) rfl ⟨_, rfl, IntAt.mk Hn.out (hat.out.below (below1 _ _)), below1 _ _⟩

set_option maxHeartbeats 400000 in
theorem ownWord_any (x : Nat) (w : World) (hx : x < W) :
    Calls Tryz.prog 87 #[.int .u64 x] w (RAt .u64 (dig W x) w) := by
  by_cases h0 : x = 0
  · subst h0
    go_enter Tryz.func87, Tryz.ntmps87
    go_wp2
    go_ret
    exact ⟨_, rfl, At.nil _ _, Below.refl _ _⟩
  · have Hd := hid (dig_one W2 (by omega) hx)
    go_enter Tryz.func87, Tryz.ntmps87
    go_wp2
    go_ret
    exact ⟨_, rfl, by rw [Hd.out]; exact At.one _ _ _ _, below1 _ _⟩

set_option maxHeartbeats 400000 in
theorem word_any (v : Value) (l : List Nat) (w : World) (h : At w .u64 v l) :
    Calls Tryz.prog 134 #[v] w fun e w' => e = .returned (.int .u64 (l.headD 0 : Nat)) ∧ w = w' := by
  obtain ⟨p, cap, rfl, h1, h2, h3, h4⟩ := h
  unfold maxLen at h2
  cases l with
  | nil =>
    go_enter Tryz.func134, Tryz.ntmps134
    go_wp2
    go_ret
    exact ⟨rfl, rfl⟩
  | cons x l =>
    obtain ⟨b, off, rfl, hb, hc⟩ := h4 (by simp)
    have hck : w.cell? ⟨b, off, none⟩ = some (.int .u64 x) := hc 0 (by simp)
    clear hc h4
    have hl : (l.length + 1 == 0) = false := by simp
    have hl2 : 0 < l.length + 1 := by omega
    rw [List.length_cons] at *
    go_enter Tryz.func134, Tryz.ntmps134
    go_wp2
    go_ret
    exact ⟨rfl, rfl⟩

end Go.Proofs.YtckkpolikdnilaaGreatDoor
/- whole.own, whole.plus: sums of words with carries. -/
namespace Go.Proofs.YtckkpolikdnilaaGreatDoor
open Go.RowKit Big

set_option maxHeartbeats 400000 in
theorem own_any (v : Value) (l : List Nat) (w : World) (h : At w .u64 v l) (hl : l.length ≤ 1099511627776) :
    Calls Tryz.prog 59 #[v] w (ROwn 94 .u64 (strip l) w) := by
  have hs := strip_length l
  go_enter Tryz.func59, Tryz.ntmps59
  go_wp2_with (first
    | (go_at_call 88; refine (trim_any _ l _ h).mono ?_; rintro e w' ⟨v', rfl, hv', rfl⟩)
    | (at_builtin; refine wpList_append_at rfl _ _ 42 rfl elemNat w.heap.size _ [] rfl (Own.nil _ _ _ _) _ (strip l) rfl hv' (by simp [maxLen]; omega) (by simp; omega) (Nat.le_refl _) ?_; intro v2 w2 ho hb _))
  go_ret
  exact ⟨_, rfl, by simpa using ho, hb⟩

/-- math/bits.Add64, its sum and carry under names -/
theorem add64 (x y c : Nat) (hc : c ≤ 1) : ∃ s c', x + y + c = s + W * c' ∧ s < W ∧ (x < W → y < W → c' ≤ 1) ∧
    ∀ w, (callFunc 131 #[.int .u64 (x : Nat), .int .u64 (y : Nat), .int .u64 (c : Nat)]).run Tryz.prog w = .ok (.value (.tuple #[.int .u64 (s : Nat), .int .u64 (c' : Nat)])) w := by
  refine ⟨(x + y + c) % W, (x + y + c) / W, (Nat.mod_add_div _ _).symm, Nat.mod_lt _ (by decide), ?_, fun w => ?_⟩
  · intro h1 h2
    have : (x + y + c) / W < 2 := (Nat.div_lt_iff_lt_mul (by decide)).2 (by omega)
    omega
  · rw [run_callFunc_extern Tryz.func131 (by kernel_rfl) (by kernel_rfl) (by kernel_rfl) (e := add64Entry) (by kernel_rfl), run_add64 x y c (by omega) (by omega) (by omega) (by omega)]
    simp only [Result.andThen, W]
    congr 5 <;> omega
/-- math/bits.Sub64, likewise -/
theorem sub64 (x y b : Nat) (hx : x < W) (hy : y < W) (hb : b ≤ 1) : ∃ s b', x + W * b' = s + y + b ∧ s < W ∧ b' ≤ 1 ∧
    ∀ w, (callFunc 132 #[.int .u64 (x : Nat), .int .u64 (y : Nat), .int .u64 (b : Nat)]).run Tryz.prog w = .ok (.value (.tuple #[.int .u64 (s : Nat), .int .u64 (b' : Nat)])) w := by
  unfold W at *
  refine ⟨(x + 18446744073709551616 - y - b) % 18446744073709551616, if x < y + b then 1 else 0, ?_, Nat.mod_lt _ (by decide), ?_, fun w => ?_⟩
  · split <;> omega
  · split <;> omega
  · rw [run_callFunc_extern Tryz.func132 (by kernel_rfl) (by kernel_rfl) (by kernel_rfl) (e := sub64Entry) (by kernel_rfl), run_sub64 x y b hb]
    rfl

def RPlus (l0 l1 : List Nat) (w : World) (e : Ending) (w' : World) : Prop := ∃ l c, Small W l ∧ l.length = l0.length ∧ c ≤ 1 ∧ val W l + c * W ^ l0.length = val W l0 + val W l1 ∧
      ROwn 94 .u64 (if c = 0 then l else l ++ [c]) w e w'
theorem plus_step {l l0 l1 : List Nat} {k x y c s c2 : Nat} {hk : k < l0.length} (hl : l.length = k) (hx : x = l0[k]) (hy : y = l1[k]?.getD 0) (hs : x + y + c = s + W * c2)
    (hv : val W l + c * W ^ k = val W (l0.take k) + val W (l1.take k)) : val W (l ++ [s]) + c2 * W ^ (k + 1) = val W (l0.take (k + 1)) + val W (l1.take (k + 1)) := by
  rw [val_snoc, val_take_succ W l0 k hk, val_take_getD, hl, ← hx, ← hy, Nat.pow_succ]
  exact add_step hs hv

set_option maxRecDepth 100000 in
set_option maxHeartbeats 800000 in
theorem plus_at (sw : Bool) (v0 v1 : Value) (l0 l1 : List Nat) (w : World) (h0 : At w .u64 v0 l0) (h1 : At w .u64 v1 l1) (s0 : Small W l0) (s1 : Small W l1)
    (hl : if sw then l1.length < l0.length else l1.length ≤ l0.length) (hlen : l0.length ≤ 1099511627776) :
    Calls Tryz.prog 118 (if sw then #[v1, v0] else #[v0, v1]) w (RPlus l0 l1 w) := by
  obtain ⟨p0, c0, rfl, a1, a2, a3, a4⟩ := h0
  obtain ⟨p1, c1, rfl, b1, b2, b3, b4⟩ := h1
  cases sw
  all_goals
    first | simp only [if_true] at hl ⊢ | simp only [if_false, Bool.false_eq_true] at hl ⊢
    go_enter Tryz.func118, Tryz.ntmps118
    unfold maxLen at a2 b2
    go_wp2_with (first
      | (at_make; refine wpList_make_at rfl _ _ 42 rfl elemNat w.heap.size _ _ _ (l0.length + 1) rfl rfl (by simp) (by omega) (by simp [maxLen]; omega) (Nat.le_refl _) ?_; intro vo w1 ho hb1 hs1 hvo; clear hvo))
    go_loopw [5, 6, 23] (fun o c i wr => ∃ (k : Nat) (l : List Nat) (c' : Nat), k ≤ l0.length ∧ i = .int .i64 (k : Nat) ∧ c = .int .u64 (c' : Nat) ∧ c' ≤ 1 ∧ Own wr w.heap.size 94 .u64 o l ∧ l.length = k ∧ Small W l ∧
        Hid (val W l + c' * W ^ k = val W (l0.take k) + val W (l1.take k)) ∧ Below w.heap.size w wr) (fun _ _ i _ => l0.length - (intOf i).toNat)
    case atStart => exact ⟨0, [], 0, Nat.zero_le _, rfl, rfl, by omega, ho, rfl, small_nil _, by simp [Hid, val], hb1⟩
    case round =>
      obtain ⟨k, l, c', hk, rfl, rfl, hc', hown, hlk, hsl, hv, hbel⟩ := hrel
      have Hlk := hid hlk; clear hlk
      by_cases hkl : k < l0.length
      · obtain ⟨b, off, rfl, hbb, hcell⟩ := a4 (by omega)
        have e0 : wr.cell? ⟨b, off + k, none⟩ = some (.int .u64 (l0[k] : Nat)) := (hbel.cell (p := ⟨b, off + k, none⟩) hbb).trans (hcell k hkl)
        have x0 := small_get s0 k hkl
        obtain ⟨x, hx⟩ : ∃ x, x = l0[k] := ⟨_, rfl⟩
        rw [← hx] at e0 x0
        have Hx := hid hx; clear hx hcell a4
        by_cases hk1 : k < l1.length
        · obtain ⟨b', off', rfl, hbb', hcell'⟩ := b4 (by omega)
          have e1 : wr.cell? ⟨b', off' + k, none⟩ = some (.int .u64 (l1[k] : Nat)) := (hbel.cell (p := ⟨b', off' + k, none⟩) hbb').trans (hcell' k hk1)
          have y0 := small_get s1 k hk1
          obtain ⟨y, hy⟩ : ∃ y, y = l1[k] := ⟨_, rfl⟩
          rw [← hy] at e1 y0
          have Hy : Hid (y = l1[k]?.getD 0) := by unfold Hid; simpa [hk1] using hy
          clear hy hcell' b4
          obtain ⟨s, c2, hs, hsW, hc2, hadd⟩ := add64 x y c' hc'
          have hc2 := hc2 x0 y0
          have Hs := hid hs; clear hs
          go_wp2_with (first
            | (at_builtin; refine wpList_append_at rfl _ _ 42 rfl elemNat w.heap.size _ l rfl (hown.alloc _) _ [s] rfl (At.one _ _ _ _) (by rw [Hlk.out]; simp [maxLen]; omega) (by rw [Hlk.out]; simp; omega) (by have := hbel.size; simp; omega) ?_; intro v2 w2 ho2 hb2 hs2))
          go_roundw
          case rel => exact ⟨k + 1, l ++ [s], c2, by omega, by go_num, rfl, hc2, ho2, by simp [Hlk.out], small_snoc hsl hsW,
              plus_step Hlk.out Hx.out Hy.out Hs.out hv.out, (hbel.trans ((below1 _ _).mono hbel.size)).trans hb2⟩
          case measure => simp [intOf]; omega
        · obtain ⟨y, hy⟩ : ∃ y, y = 0 := ⟨_, rfl⟩
          have y0 : y < W := by rw [hy]; decide
          have Hy : Hid (y = l1[k]?.getD 0) := by unfold Hid; simpa [hk1] using hy
          obtain ⟨s, c2, hs, hsW, hc2, hadd⟩ := add64 x y c' hc'
          have hc2 := hc2 x0 y0
          have Hs := hid hs; clear hs
          rw [hy] at hadd; simp only [Int.natCast_zero] at hadd; clear hy
          go_wp2_with (first
            | (at_builtin; refine wpList_append_at rfl _ _ 42 rfl elemNat w.heap.size _ l rfl (hown.alloc _) _ [s] rfl (At.one _ _ _ _) (by rw [Hlk.out]; simp [maxLen]; omega) (by rw [Hlk.out]; simp; omega) (by have := hbel.size; simp; omega) ?_; intro v2 w2 ho2 hb2 hs2))
          go_roundw
          case rel => exact ⟨k + 1, l ++ [s], c2, by omega, by go_num, rfl, hc2, ho2, by simp [Hlk.out], small_snoc hsl hsW,
              plus_step Hlk.out Hx.out Hy.out Hs.out hv.out, (hbel.trans ((below1 _ _).mono hbel.size)).trans hb2⟩
          case measure => simp [intOf]; omega
      · obtain rfl : k = l0.length := by omega
        have hv' : val W l + c' * W ^ l0.length = val W l0 + val W l1 := by
          have := hv.out
          rwa [List.take_length, val_take_ge W l1 _ (by omega)] at this
        have Hv := hid hv'; clear hv hv' a4 b4
        by_cases hc0 : c' = 0
        · subst hc0
          go_wp2
          go_ret
          exact ⟨l, 0, hsl, Hlk.out, by omega, Hv.out, _, rfl, by simpa using hown, hbel⟩
        · obtain rfl : c' = 1 := by omega
          go_wp2_with (first
            | (at_builtin; refine wpList_append_at rfl _ _ 42 rfl elemNat w.heap.size _ l rfl (hown.alloc _) _ [1] rfl (At.one _ _ _ _) (by rw [Hlk.out]; simp [maxLen]; omega) (by rw [Hlk.out]; simp; omega) (by have := hbel.size; simp; omega) ?_; intro v2 w2 ho2 hb2 hs2))
          go_ret
          exact ⟨l, 1, hsl, Hlk.out, by omega, Hv.out, _, rfl, by simpa using ho2, (hbel.trans ((below1 _ _).mono hbel.size)).trans hb2⟩

/-- whole.plus of two numbers' digits: the sum's digits -/
theorem plus_any (va vb : Value) (n m : Nat) (w : World) (h0 : At w .u64 va (dig W n)) (h1 : At w .u64 vb (dig W m)) (hn : sz W n ≤ 1099511627776) (hm : sz W m ≤ 1099511627776) :
    Calls Tryz.prog 118 #[va, vb] w (ROwn 94 .u64 (dig W (n + m)) w) := by
  have key : ∀ l0 l1 : Nat, sz W l1 ≤ sz W l0 → ∀ e w', RPlus (dig W l0) (dig W l1) w e w' → ROwn 94 .u64 (dig W (l0 + l1)) w e w' := by
    rintro n m hnm e w' ⟨l, c, hs, hl, hc, hv, hr⟩
    rw [val_dig W2, val_dig W2] at hv
    have : (if c = 0 then l else l ++ [c]) = dig W (n + m) := by
      by_cases hc0 : c = 0
      · subst hc0
        rw [if_pos rfl]
        refine canon_val W2 hs (by omega) ?_
        by_cases h0 : n = 0
        · left; subst h0; exact List.eq_nil_of_length_eq_zero hl
        · right; rw [hl]; exact Nat.le_trans (pow_sz_le W2 (by omega)) (by omega)
      · obtain rfl : c = 1 := by omega
        rw [if_neg hc0]
        refine canon_val W2 (small_snoc hs (by decide)) (by rw [val_snoc, hl]; omega) (Or.inr ?_)
        simp only [List.length_append, List.length_singleton, Nat.add_sub_cancel, hl]
        omega
    rw [← this]; exact hr
  by_cases hlt : (dig W n).length < (dig W m).length
  · have := plus_at true vb va (dig W m) (dig W n) w h1 h0 (small_dig W2 _) (small_dig W2 _) (by simpa using hlt) hm
    refine this.mono fun e w' h => ?_
    rw [Nat.add_comm]
    exact key m n (Nat.le_of_lt hlt) e w' h
  · have := plus_at false va vb (dig W n) (dig W m) w h0 h1 (small_dig W2 _) (small_dig W2 _) (by simpa using hlt) hn
    exact this.mono fun e w' h => key n m (by unfold sz; omega) e w' h
end Go.Proofs.YtckkpolikdnilaaGreatDoor
/- whole.minus: differences of words with borrows. -/
namespace Go.Proofs.YtckkpolikdnilaaGreatDoor
open Go.RowKit Big

theorem minus_step {l l0 l1 : List Nat} {k x y c s c2 : Nat} {hk : k < l0.length} (hl : l.length = k) (hx : x = l0[k]) (hy : y = l1[k]?.getD 0) (hs : x + W * c2 = s + y + c)
    (hv : val W l + val W (l1.take k) = val W (l0.take k) + c * W ^ k) : val W (l ++ [s]) + val W (l1.take (k + 1)) = val W (l0.take (k + 1)) + c2 * W ^ (k + 1) := by
  rw [val_snoc, val_take_succ W l0 k hk, val_take_getD, hl, ← hx, ← hy, Nat.pow_succ]
  exact sub_step hs hv

set_option maxRecDepth 100000 in
set_option maxHeartbeats 800000 in
/-- whole.minus of two numbers' digits, the second no greater: the difference's digits -/
theorem minus_any (v0 v1 : Value) (n m : Nat) (w : World) (h0 : At w .u64 v0 (dig W n)) (h1 : At w .u64 v1 (dig W m)) (hmn : m ≤ n) (hlen : sz W n ≤ 1099511627776) :
    Calls Tryz.prog 119 #[v0, v1] w (RAt .u64 (dig W (n - m)) w) := by
  have s0 := small_dig W2 n
  have s1 := small_dig W2 m
  have hl : (dig W m).length ≤ (dig W n).length := sz_mono W2 hmn
  have hvv : val W (dig W m) ≤ val W (dig W n) ∧ val W (dig W n) - val W (dig W m) = n - m := by rw [val_dig W2, val_dig W2]; exact ⟨hmn, rfl⟩
  unfold sz at hlen
  have Hvv := hid hvv; clear hvv hmn
  obtain ⟨r, hr⟩ : ∃ r, r = dig W (n - m) := ⟨_, rfl⟩
  rw [← hr]
  have Hr := hid hr; clear hr
  generalize dig W n = l0 at *
  generalize dig W m = l1 at *
  obtain ⟨p0, c0, rfl, a1, a2, a3, a4⟩ := h0
  obtain ⟨p1, c1, rfl, b1, b2, b3, b4⟩ := h1
  unfold maxLen at a2 b2
  go_enter Tryz.func119, Tryz.ntmps119
  go_wp2_with (first
    | (at_make; refine wpList_make_at rfl _ _ 42 rfl elemNat w.heap.size _ _ _ l0.length rfl rfl (by simp) (by omega) (by simp [maxLen]; omega) (Nat.le_refl _) ?_; intro vo w1 ho hb1 hs1 hvo; clear hvo))
  go_loopw [5, 6, 15] (fun o c i wr => ∃ (k : Nat) (l : List Nat) (c' : Nat), k ≤ l0.length ∧ i = .int .i64 (k : Nat) ∧ c = .int .u64 (c' : Nat) ∧ c' ≤ 1 ∧ Own wr w.heap.size 94 .u64 o l ∧ l.length = k ∧ Small W l ∧
      Hid (val W l + val W (l1.take k) = val W (l0.take k) + c' * W ^ k) ∧ Below w.heap.size w wr) (fun _ _ i _ => l0.length - (intOf i).toNat)
  case atStart => exact ⟨0, [], 0, Nat.zero_le _, rfl, rfl, by omega, ho, rfl, small_nil _, by simp [Hid, val], hb1⟩
  case round =>
    obtain ⟨k, l, c', hk, rfl, rfl, hc', hown, hlk, hsl, hv, hbel⟩ := hrel
    have Hlk := hid hlk; clear hlk
    by_cases hkl : k < l0.length
    · obtain ⟨b, off, rfl, hbb, hcell⟩ := a4 (by omega)
      have e0 : wr.cell? ⟨b, off + k, none⟩ = some (.int .u64 (l0[k] : Nat)) := (hbel.cell (p := ⟨b, off + k, none⟩) hbb).trans (hcell k hkl)
      have x0 := small_get s0 k hkl
      obtain ⟨x, hx⟩ : ∃ x, x = l0[k] := ⟨_, rfl⟩
      rw [← hx] at e0 x0
      have Hx := hid hx; clear hx hcell a4
      by_cases hk1 : k < l1.length
      · obtain ⟨b', off', rfl, hbb', hcell'⟩ := b4 (by omega)
        have e1 : wr.cell? ⟨b', off' + k, none⟩ = some (.int .u64 (l1[k] : Nat)) := (hbel.cell (p := ⟨b', off' + k, none⟩) hbb').trans (hcell' k hk1)
        have y0 := small_get s1 k hk1
        obtain ⟨y, hy⟩ : ∃ y, y = l1[k] := ⟨_, rfl⟩
        rw [← hy] at e1 y0
        have Hy : Hid (y = l1[k]?.getD 0) := by unfold Hid; simpa [hk1] using hy
        clear hy hcell' b4
        obtain ⟨s, c2, hs, hsW, hc2, hadd⟩ := sub64 x y c' x0 y0 hc'
        have Hs := hid hs; clear hs
        go_wp2_with (first
          | (at_builtin; refine wpList_append_at rfl _ _ 42 rfl elemNat w.heap.size _ l rfl (hown.alloc _) _ [s] rfl (At.one _ _ _ _) (by rw [Hlk.out]; simp [maxLen]; omega) (by rw [Hlk.out]; simp; omega) (by have := hbel.size; simp; omega) ?_; intro v2 w2 ho2 hb2 hs2))
        go_roundw
        case rel => exact ⟨k + 1, l ++ [s], c2, by omega, by go_num, rfl, hc2, ho2, by simp [Hlk.out], small_snoc hsl hsW,
            minus_step Hlk.out Hx.out Hy.out Hs.out hv.out, (hbel.trans ((below1 _ _).mono hbel.size)).trans hb2⟩
        case measure => simp [intOf]; omega
      · obtain ⟨y, hy⟩ : ∃ y, y = 0 := ⟨_, rfl⟩
        have y0 : y < W := by rw [hy]; decide
        have Hy : Hid (y = l1[k]?.getD 0) := by unfold Hid; simpa [hk1] using hy
        obtain ⟨s, c2, hs, hsW, hc2, hadd⟩ := sub64 x y c' x0 y0 hc'
        have Hs := hid hs; clear hs
        rw [hy] at hadd; simp only [Int.natCast_zero] at hadd; clear hy
        go_wp2_with (first
          | (at_builtin; refine wpList_append_at rfl _ _ 42 rfl elemNat w.heap.size _ l rfl (hown.alloc _) _ [s] rfl (At.one _ _ _ _) (by rw [Hlk.out]; simp [maxLen]; omega) (by rw [Hlk.out]; simp; omega) (by have := hbel.size; simp; omega) ?_; intro v2 w2 ho2 hb2 hs2))
        go_roundw
        case rel => exact ⟨k + 1, l ++ [s], c2, by omega, by go_num, rfl, hc2, ho2, by simp [Hlk.out], small_snoc hsl hsW,
            minus_step Hlk.out Hx.out Hy.out Hs.out hv.out, (hbel.trans ((below1 _ _).mono hbel.size)).trans hb2⟩
        case measure => simp [intOf]; omega
    · obtain rfl : k = l0.length := by omega
      have hv' : val W l + val W l1 = val W l0 + c' * W ^ l0.length := by
        have := hv.out
        rwa [List.take_length, val_take_ge W l1 _ (by omega)] at this
      have hlt := val_lt (by decide : 0 < W) hsl
      have e : strip l = r := by
        rw [strip_dig W2 hsl, Hr.out, ← Hvv.out.2]
        have := Hvv.out.1
        rw [Hlk.out] at hlt
        have : c' = 0 := by
          rcases (by omega : c' = 0 ∨ c' = 1) with h | h
          · exact h
          · subst h; omega
        subst this
        congr 1; omega
      have He := hid e; clear hv hv' e hlt a4 b4
      go_wp2_with (first
        | (go_at_call 88; refine (trim_any _ l _ hown.at).mono ?_; rintro e w' ⟨v', rfl, hv', rfl⟩))
      go_ret
      exact ⟨_, rfl, by rw [← He.out]; exact hv', hbel⟩
end Go.Proofs.YtckkpolikdnilaaGreatDoor
/- whole.compare: the order of sizes. -/
namespace Go.Proofs.YtckkpolikdnilaaGreatDoor
open Go.RowKit Big

def ord (a b : Int) : Int := if a < b then -1 else if b < a then 1 else 0
theorem ord_lt {a b : Int} (h : a < b) : ord a b = -1 := by simp [ord, h]
theorem ord_gt {a b : Int} (h : b < a) : ord a b = 1 := by simp [ord, h]; omega
theorem ord_eq (a : Int) : ord a a = 0 := by simp [ord]

theorem cmpInt_any (a b : Int) (w : World) :
    Calls Tryz.prog 108 #[.int .i64 a, .int .i64 b] w fun e w' => e = .returned (.int .i64 (ord a b)) ∧ w' = w := by
  rcases Int.lt_trichotomy a b with h | h | h
  · rw [ord_lt h]
    go_enter Tryz.func108, Tryz.ntmps108
    go_wp2
    go_ret
    exact ⟨rfl, rfl⟩
  · subst h
    rw [ord_eq]
    go_enter Tryz.func108, Tryz.ntmps108
    go_wp2
    go_ret
    exact ⟨rfl, rfl⟩
  · have h' : ¬ a < b := by omega
    rw [ord_gt h]
    go_enter Tryz.func108, Tryz.ntmps108
    go_wp2
    go_ret
    exact ⟨rfl, rfl⟩
theorem cmpWord_any (a b : Int) (w : World) :
    Calls Tryz.prog 122 #[.int .u64 a, .int .u64 b] w fun e w' => e = .returned (.int .i64 (ord a b)) ∧ w' = w := by
  rcases Int.lt_trichotomy a b with h | h | h
  · rw [ord_lt h]
    go_enter Tryz.func122, Tryz.ntmps122
    go_wp2
    go_ret
    exact ⟨rfl, rfl⟩
  · subst h
    rw [ord_eq]
    go_enter Tryz.func122, Tryz.ntmps122
    go_wp2
    go_ret
    exact ⟨rfl, rfl⟩
  · have h' : ¬ a < b := by omega
    rw [ord_gt h]
    go_enter Tryz.func122, Tryz.ntmps122
    go_wp2
    go_ret
    exact ⟨rfl, rfl⟩

theorem drawn_more {w wr : World} {n : Nat} (h : ∃ j, wr = w.drewN j) : ∃ j, wr.drewN n = w.drewN j := by
  obtain ⟨j, rfl⟩ := h
  exact ⟨j + n, by rw [World.drewN_drewN]⟩
def ROrd (z : Int) (w : World) (e : Ending) (w' : World) : Prop := e = .returned (.int .i64 z) ∧ ∃ k, w' = w.drewN k

/-- the order, seen at the highest digits that part -/
theorem ord_part {l0 l1 : List Nat} {n m : Nat} (s0 : Small W l0) (s1 : Small W l1) (h0 : val W l0 = n) (h1 : val W l1 = m) {k : Nat} (hk0 : k < l0.length) (hk1 : k < l1.length)
    (hd : l0.drop (k + 1) = l1.drop (k + 1)) (hne : l0[k] ≠ l1[k]) : ord (l0[k] : Nat) (l1[k] : Nat) = ord n m := by
  rcases Nat.lt_or_ge l0[k] l1[k] with h | h
  · have := val_lt_of_part s0 hk0 hk1 hd h
    rw [ord_lt (by omega), ord_lt (by omega)]
  · have := val_lt_of_part s1 hk1 hk0 hd.symm (show l1[k] < l0[k] by omega)
    rw [ord_gt (by omega), ord_gt (by omega)]

set_option maxRecDepth 100000 in
set_option maxHeartbeats 800000 in
theorem compare_any (v0 v1 : Value) (n m : Nat) (w : World) (h0 : At w .u64 v0 (dig W n)) (h1 : At w .u64 v1 (dig W m)) :
    Calls Tryz.prog 109 #[v0, v1] w (ROrd (ord n m) w) := by
  have s0 := small_dig W2 n
  have s1 := small_dig W2 m
  have k1 : (dig W n).length < (dig W m).length → n < m := lt_of_sz_lt W2
  have k2 : (dig W m).length < (dig W n).length → m < n := lt_of_sz_lt W2
  have hv0 := val_dig W2 n
  have hv1 := val_dig W2 m
  generalize dig W n = l0 at *
  generalize dig W m = l1 at *
  have Hv0 := hid hv0; clear hv0
  have Hv1 := hid hv1; clear hv1
  obtain ⟨p0, c0, rfl, a1, a2, a3, a4⟩ := h0
  obtain ⟨p1, c1, rfl, b1, b2, b3, b4⟩ := h1
  unfold maxLen at a2 b2
  by_cases hl : l0.length = l1.length
  · have Hl := hid hl
    rw [hl] at a1 ⊢; clear hl
    go_enter Tryz.func109, Tryz.ntmps109
    go_wp2_with fail
    go_loopw [5] (fun i wr => ∃ (k : Nat), k ≤ l1.length ∧ i = .int .i64 ((k : Int) - 1) ∧ Hid (l0.drop k = l1.drop k) ∧ Hid (∃ j, wr = w.drewN j)) (fun i _ => (intOf i + 1).toNat)
    case atStart => exact ⟨l1.length, Nat.le_refl _, rfl, by unfold Hid; rw [List.drop_length, ← Hl.out, List.drop_length], 0, rfl⟩
    case round =>
      obtain ⟨k, hk, rfl, hd, Hw⟩ := hrel
      by_cases hk0 : 0 < k
      · obtain ⟨k, rfl⟩ : ∃ k', k = k' + 1 := ⟨k - 1, by omega⟩
        have hkl : k < l0.length := by rw [Hl.out]; omega
        obtain ⟨b, off, rfl, hbb, hc0⟩ := a4 (Nat.lt_of_le_of_lt (Nat.zero_le _) hkl)
        obtain ⟨b', off', rfl, hbb', hc1⟩ := b4 (by omega)
        have e0 : wr.cell? ⟨b, off + k, none⟩ = some (.int .u64 (l0[k] : Nat)) := by obtain ⟨j, rfl⟩ := Hw.out; exact hc0 k hkl
        have e1 : wr.cell? ⟨b', off' + k, none⟩ = some (.int .u64 (l1[k] : Nat)) := by obtain ⟨j, rfl⟩ := Hw.out; exact hc1 k (by omega)
        have ep := ord_part s0 s1 Hv0.out Hv1.out hkl (show k < l1.length by omega) hd.out
        have es : l0[k] = l1[k] → l0.drop k = l1.drop k := fun h => by
          rw [List.drop_eq_getElem_cons hkl, List.drop_eq_getElem_cons (show k < l1.length by omega), h, hd.out]
        generalize l0[k] = x at *
        generalize l1[k] = y at *
        have Ep := hid ep
        have Es : Hid (x = y → l0.drop k = l1.drop k) := es
        clear a4 b4 hc0 hc1 ep es hbb hbb' s0 s1 k1 k2
        have hlow : (0 : Int) ≤ (k : Int) + 1 - 1 := by omega
        have hsp : (k : Int) + 1 - 1 = (k : Int) := by omega
        by_cases hxy : x = y
        · subst hxy
          go_wp2
          go_quiet (fail)
          go_wp2
          go_roundw
          case rel => exact ⟨k, by omega, rfl, Es.out (by trivial), drawn_more Hw.out⟩
          case measure => simp [intOf]
        · have hb : ((x : Int) != (y : Int)) = true := bne_iff_ne.2 (fun h => hxy (by omega))
          go_wp2
          go_quiet (fail)
          go_wp2
          go_quiet ((go_at_call 122; exact quiet_add_same (cmpWord_any _ _ _)))
          go_wp2
          go_ret
          exact ⟨by rw [← Ep.out (fun h => hxy h)]; rfl, drawn_more (drawn_more Hw.out)⟩
      · obtain rfl : k = 0 := by omega
        have hn : ord n m = 0 := by
          have h := hd.out
          rw [List.drop_zero, List.drop_zero] at h
          rw [← Hv0.out, ← Hv1.out, h]; exact ord_eq _
        have Hn := hid hn
        clear hn a4 b4 k1 k2 hd
        go_wp2
        go_ret
        exact ⟨by rw [Hn.out]; rfl, Hw.out⟩
  · have hn : (l0.length < l1.length ∧ ord l0.length l1.length = ord n m) ∨ (l1.length < l0.length ∧ ord l0.length l1.length = ord n m) := by
      rcases Nat.lt_or_ge l0.length l1.length with h | h
      · exact Or.inl ⟨h, by have := k1 h; rw [ord_lt (by omega), ord_lt (by omega)]⟩
      · exact Or.inr ⟨by omega, by have := k2 (by omega); rw [ord_gt (by omega), ord_gt (by omega)]⟩
    have Hn : Hid (ord l0.length l1.length = ord n m) := by rcases hn with h | h <;> exact h.2
    clear hn a4 b4 k1 k2
    have hb : ((l0.length : Int) != (l1.length : Int)) = true := bne_iff_ne.2 (by omega)
    go_enter Tryz.func109, Tryz.ntmps109
    go_wp2_with (go_at_call 108; refine (cmpInt_any _ _ _).mono ?_; rintro e w' ⟨rfl, rfl⟩)
    go_ret
    exact ⟨by rw [← Hn.out]; rfl, 0, rfl⟩
end Go.Proofs.YtckkpolikdnilaaGreatDoor
/- whole.Norm, Neg, Sign, Cmp, Add, Sub. -/
namespace Go.Proofs.YtckkpolikdnilaaGreatDoor
open Go.RowKit Big

set_option maxHeartbeats 800000 in
theorem Norm_any (v : Value) (z : Int) (w : World) (h : RawAt w v z) : Calls Tryz.prog 37 #[v] w (RInt z w) := by
  obtain ⟨neg, s, l, rfl, ha, hs, hl, rfl⟩ := h
  have Hs := hid (strip_dig W2 hs)
  go_enter Tryz.func37, Tryz.ntmps37
  go_wp2_with fail
  go_region_held3 (fun w' => w'.cell? ⟨w.heap.size, 0, none⟩ = some (.bool neg) ∧ w'.cell? ⟨w.heap.size, 1, none⟩ = some s ∧ Pair w' (w.heap.size + 1) 44)
    (first | (go_split_ands; (try dsimp only); (repeat' apply And.intro) <;> first | assumption | exact Pair.drew ‹_› | exact Pair.below ‹_› hb9 | exact Pair.below ‹_› hb8 | exact Pair.below ‹_› hb7 | exact Pair.below ‹_› hb6 | exact Pair.below ‹_› hb5 | exact Pair.below ‹_› hb4 | exact Pair.below ‹_› hb3 | exact Pair.below ‹_› hb2 | exact Pair.below ‹_› hb1 | exact (hb9.cell (by first | omega | (simp; omega) | (simp; done))).trans ‹_› | exact (hb8.cell (by first | omega | (simp; omega) | (simp; done))).trans ‹_› | exact (hb7.cell (by first | omega | (simp; omega) | (simp; done))).trans ‹_› | exact (hb6.cell (by first | omega | (simp; omega) | (simp; done))).trans ‹_› | exact (hb5.cell (by first | omega | (simp; omega) | (simp; done))).trans ‹_› | exact (hb4.cell (by first | omega | (simp; omega) | (simp; done))).trans ‹_› | exact (hb3.cell (by first | omega | (simp; omega) | (simp; done))).trans ‹_› | exact (hb2.cell (by first | omega | (simp; omega) | (simp; done))).trans ‹_› | exact (hb1.cell (by first | omega | (simp; omega) | (simp; done))).trans ‹_› | exact Pair.set1 (Pair.set0 ‹_› _) _ _ _ | exact (cell_stored _ (by first | (dsimp only; omega) | (simp; done) | (simp; omega)) _ _).trans ‹_› | exact Pair.drew (Pair.below ‹_› (below1 _ _)) | exact Pair.below ‹_› (below1 _ _) | exact Pair.far ‹_› (by omega) hb1 | exact Pair.new .. | exact Pair.new1 .. | exact Pair.new2 .. | (go_keep; done)) | (go_keep; done))
    (first
      | (go_at_call 59; refine (own_any s l _ ?_ hl).mono ?_; (repeat (first | exact ha | apply At.drew | apply At.alloc)); rintro e w1 ⟨v1, rfl, ho1, hb1⟩; have hz1 : w.heap.size + 2 ≤ w1.heap.size := (by have := hb1.size; simp at this; omega))
      | (go_at_call 58; refine (told_any neg _ _ _ (by rw [← Hs.out]; exact ho1.at)).mono ?_; rintro e w2 ⟨v2, rfl, hi2, hb2⟩; obtain ⟨p2, n2, c2, rfl, hi2⟩ := hi2.shape; have hpr := Pair.below (by go_split_ands; assumption) hb2; obtain ⟨_, _, q0, q1, q2, q3⟩ := hpr.cells))
  go_wp2
  exact bodyPost_ret (v := .agg #[.bool (decide (sg neg (val W l) < 0)), .slice p2 n2 c2]) (by simp [results, Tryz.results37, go_sem, q0, q1]) rfl
    ⟨_, rfl, hi2.stored hpr _ _ _ _, Below.stored ((((below1 _ _).alloc (by simp) _).drew.trans (hb1.mono (B' := w.heap.size) (by simp; omega))).trans (hb2.mono (B' := w.heap.size) (by omega))) (by omega) _ _⟩
end Go.Proofs.YtckkpolikdnilaaGreatDoor
/- whole.Neg, Sign, Cmp, Add, Sub. -/
namespace Go.Proofs.YtckkpolikdnilaaGreatDoor
open Go.RowKit Big


theorem sign_sg (neg : Bool) (n : Nat) : (sg neg n).sign = if n = 0 then 0 else if neg then -1 else 1 := by
  unfold sg
  by_cases h : n = 0
  · subst h; cases neg <;> simp
  · rw [if_neg h]
    cases neg
    · simp only [Bool.false_eq_true, if_false]; exact Int.sign_eq_one_of_pos (by omega)
    · simp only [if_true]; exact Int.sign_eq_neg_one_of_neg (by omega)

set_option maxHeartbeats 800000 in
theorem Sign_any (v : Value) (z : Int) (w : World) (h : RawAt w v z) : Calls Tryz.prog 57 #[v] w (fun e w' => e = .returned (.int .i64 z.sign) ∧ Below w.heap.size w w') := by
  obtain ⟨neg, s, l, rfl, ha, hs, hl, rfl⟩ := h
  have Hs := hid (strip_dig W2 hs)
  have Hz := hid (sign_sg neg (val W l))
  have ht : ∀ o, Calls Tryz.prog 88 #[s] (w.alloc o) (fun e w' => e = .returned (cutTo s (strip l).length) ∧ w' = w.alloc o) := fun o => trim_val s l _ (ha.alloc o)
  have Ht := hid ht; clear ht
  obtain ⟨p, c, rfl, -⟩ := ha
  obtain ⟨n, hn⟩ : ∃ n, n = val W l := ⟨_, rfl⟩
  obtain ⟨m, hm⟩ : ∃ m, m = (strip l).length := ⟨_, rfl⟩
  have hmn : m = 0 ↔ n = 0 := by rw [hm, Hs.out, ← hn]; exact sz_eq_zero W2
  rw [← hn] at Hz ⊢
  rw [← hm] at Ht
  clear hm hn
  obtain ⟨z, hz⟩ : ∃ z, z = (sg neg n).sign := ⟨_, rfl⟩
  rw [← hz] at Hz ⊢
  clear hz
  by_cases h0 : m = 0
  · have hz : z = 0 := by rw [Hz.out, if_pos (hmn.1 h0)]
    subst hz
    subst h0
    go_enter Tryz.func57, Tryz.ntmps57
    go_wp2_with (go_at_call 88; refine (Ht.out _).mono ?_; rintro e w' ⟨rfl, rfl⟩; simp only [cutTo])
    go_ret
    exact ⟨rfl, below1 _ _⟩
  · have hz : z = if neg then -1 else 1 := by rw [Hz.out, if_neg (fun e => h0 (hmn.2 e))]
    have hb : ((m : Int) == 0) = false := beq_eq_false_iff_ne.2 (by omega)
    cases neg
    · simp only [Bool.false_eq_true, if_false] at hz
      subst hz
      go_enter Tryz.func57, Tryz.ntmps57
      go_wp2_with (go_at_call 88; refine (Ht.out _).mono ?_; rintro e w' ⟨rfl, rfl⟩; simp only [cutTo])
      go_ret
      exact ⟨rfl, below1 _ _⟩
    · simp only [if_true] at hz
      subst hz
      go_enter Tryz.func57, Tryz.ntmps57
      go_wp2_with (go_at_call 88; refine (Ht.out _).mono ?_; rintro e w' ⟨rfl, rfl⟩; simp only [cutTo])
      go_ret
      exact ⟨rfl, below1 _ _⟩

end Go.Proofs.YtckkpolikdnilaaGreatDoor
/- A pool in memory: its five fields, the rows, the two maps; a term that is handed in. -/
namespace Go.Proofs.YtckkpolikdnilaaGreatDoor
open Go.RowKit Big Go.WideMaps

/-- a slice that reads as a list of ints -/
def IAt (w : World) (v : Value) (l : List Int) : Prop :=
  ∃ p cap, v = .slice p l.length cap ∧ l.length ≤ cap ∧ cap ≤ maxLen ∧ (p = none → cap = 0) ∧
    (0 < l.length → ∃ b off, p = some ⟨b, off, none⟩ ∧ b < w.heap.size ∧ ∀ i (h : i < l.length), w.cell? ⟨b, off + i, none⟩ = some (.int .i64 (l[i]'h)))
theorem IAt.nil (w : World) : IAt w (.slice none 0 0) [] := ⟨none, 0, rfl, by simp, by simp [maxLen], fun _ => rfl, fun h => absurd h (by simp)⟩
theorem IAt.below {w w' : World} {v : Value} {l : List Int} (h : IAt w v l) (hb : Below w.heap.size w w') : IAt w' v l := by
  obtain ⟨p, cap, hv, h1, h2, h3, h4⟩ := h
  refine ⟨p, cap, hv, h1, h2, h3, fun hp => ?_⟩
  obtain ⟨b, off, h5, h6, h7⟩ := h4 hp
  exact ⟨b, off, h5, Nat.lt_of_lt_of_le h6 hb.size, fun i hi => (hb.cell (p := ⟨b, off + i, none⟩) h6).trans (h7 i hi)⟩
/-- a term as it is handed in -/
def TmRaw (w : World) (v : Value) (t : Tm) : Prop := ∃ pa ca b pm nm cm, v = .agg #[.int .i64 t.op, .slice pa t.args.length ca, .bool b, .slice pm nm cm, .int .i64 t.sym] ∧
  IAt w (.slice pa t.args.length ca) t.args ∧ RawAt w (.agg #[.bool b, .slice pm nm cm]) t.num
theorem TmRaw.below {w w' : World} {v : Value} {t : Tm} (h : TmRaw w v t) (hb : Below w.heap.size w w') : TmRaw w' v t := by
  obtain ⟨pa, ca, b, pm, nm, cm, hv, h1, h2⟩ := h
  exact ⟨pa, ca, b, pm, nm, cm, hv, h1.below hb, h2.below hb⟩

def Sy.cells (s : Sy) : List Value := [.string ⟨s.name.toArray⟩, .int .i64 s.arity, .int .i64 s.sort]
/-- the map of a list of texts: nil while there is none -/
def MpAt (B : Nat) (w : World) (m : Option Nat) (l : List (List UInt8)) : Prop :=
  (m = none ∧ l = []) ∨ ∃ b, m = some b ∧ B ≤ b ∧ w.ownsMap (H := Unit) Tryz.prog 9 (plainElem Tryz.prog 3) b l.length (mapD l)
theorem MpAt.below {B : Nat} {w w' : World} {m : Option Nat} {l : List (List UInt8)} (h : MpAt B w m l) (hb : Below w.heap.size w w') : MpAt B w' m l := by
  rcases h with h | ⟨b, h1, h2, h3⟩
  · exact .inl h
  · refine .inr ⟨b, h1, h2, ?_⟩
    have hlt := h3.lt
    obtain ⟨es, clock, hk, r⟩ := h3
    exact ⟨es, clock, (hb.block b hlt).trans hk, r⟩

theorem wf_len (n : Nat) (h : n < 1000000) : (Lit.int .i64 (n : Nat)).wf = true := by
  have e : IntKind.min .i64 = -9223372036854775808 := by decide
  have e' : IntKind.max .i64 = 9223372036854775807 := by decide
  simp only [Lit.wf, e, e', Bool.and_eq_true, decide_eq_true_eq]
  omega
def smallText (l : List UInt8) : Prop := l.length ≤ maxLen
theorem key_of (l : List UInt8) (h : smallText l) : keyOf Tryz.prog 9 (.string ⟨l.toArray⟩) = some (.string l) := by
  simpa using keyOf_string_mk (P := Tryz.prog) Tryz.underlying9 (s := ⟨l.toArray⟩) (by simpa [ByteArray.size, smallText] using h)
theorem zeroInt (w : World) : (zeroValue 3).run Tryz.prog w = .ok (.int .i64 0) w := by kernel_rfl

set_option maxRecDepth 100000 in
set_option maxHeartbeats 1600000 in
theorem has_any (B : Nat) (m : Option Nat) (l : List (List UInt8)) (x : List UInt8) (w : World) (h : MpAt B w m l) (hx : smallText x) :
    Calls Tryz.prog 96 #[.map m, .string ⟨x.toArray⟩] w fun e w' => e = .returned (.bool (l.contains x)) ∧ w' = w := by
  have hk := key_of x hx
  rcases h with ⟨rfl, rfl⟩ | ⟨b, rfl, _, hm⟩
  · have hrun := Maps.look_nil (w := w) true (Maps.string_keyed Tryz.underlying9) Tryz.underlying117 (zeroInt _) hk
    go_enter Tryz.func96, Tryz.ntmps96
    go_wp2
    go_ret
    exact ⟨rfl, rfl⟩
  · obtain ⟨v, ps, hrun, _⟩ := hm.look_ok (Maps.string_keyed Tryz.underlying9) Tryz.underlying117 (zeroInt _) (plainElem_int Tryz.underlying3 (by decide)) hk
    rw [mapD_has] at hrun
    generalize l.contains x = c at *
    go_enter Tryz.func96, Tryz.ntmps96
    go_wp2
    go_ret
    exact ⟨rfl, rfl⟩

set_option maxRecDepth 100000 in
set_option maxHeartbeats 1600000 in
theorem with_any (B : Nat) (m : Option Nat) (l : List (List UInt8)) (x : List UInt8) (w : World) (h : MpAt B w m l) (hx : smallText x) (hl : l.length < 1000000) (hB : B ≤ w.heap.size) :
    Calls Tryz.prog 98 #[.map m, .string ⟨x.toArray⟩, .int .i64 (l.length : Nat)] w fun e w' => ∃ m', e = .returned (.map m') ∧ MpAt B w' m' (l ++ [x]) ∧ w.grownBy w' m ∧ (m' = m ∨ ∀ b, m' = some b → w.heap.size ≤ b) := by
  have hk := key_of x hx
  have hwf : (Lit.int .i64 ((l.length : Nat) : Int)).wf = true := wf_len l.length hl
  have qT : ∀ (w : World) (r : Option Nat), (binOp .eql 117 (.map r) (.map none)).run Tryz.prog w = .ok (.bool r.isNone) w := fun w r => run_eql_map_nil w _ _ _ r Tryz.underlying117
  have hmm := @run_makeMap Tryz.prog
  rcases h with ⟨rfl, rfl⟩ | ⟨b, rfl, hb, hm⟩
  · have hm0 := World.ownsMap_made (H := Unit) w Tryz.prog 9 (plainElem Tryz.prog 3)
    go_enter Tryz.func98, Tryz.ntmps98
    go_wp2_with (first
      | (at_mapUpdate; refine wpList_mapUpdate_own _ rfl _ _ _ 117 rfl 9 3 (Maps.string_keyed Tryz.underlying9) Tryz.underlying117 _ w.heap.size 0 _ rfl hm0 (by simp [maxLen]) _ _ _ rfl rfl hk _ [] (plainElem_int Tryz.underlying3 hwf) ?_; intro w1 hm1 hg1)
      | go_in)
    go_ret
    refine ⟨_, rfl, .inr ⟨_, rfl, hB, hm1⟩, ?_, .inr fun b e => by cases e; exact Nat.le_refl _⟩
    have h1 := World.grownBy_alloc w (.map #[] 0) none
    have hs := size_alloc w (.map #[] 0)
    obtain ⟨a1, a2, a3, a4, a5⟩ := hg1
    obtain ⟨c1, c2, c3, c4, c5⟩ := h1
    exact ⟨a1.trans c1, a2.trans c2, a3.trans c3, Nat.le_trans c4 a4, fun i hi hne => (a5 i (by omega) (by intro e; injection e; omega)).trans (c5 i hi hne)⟩
  · go_enter Tryz.func98, Tryz.ntmps98
    go_wp2_with (first
      | (at_mapUpdate; refine wpList_mapUpdate_own _ rfl _ _ _ 117 rfl 9 3 (Maps.string_keyed Tryz.underlying9) Tryz.underlying117 _ b l.length _ rfl hm (by simp [maxLen]; omega) _ _ _ rfl rfl hk _ [] (plainElem_int Tryz.underlying3 hwf) ?_; intro w1 hm1 hg1)
      | go_in)
    go_ret
    exact ⟨_, rfl, .inr ⟨b, rfl, hb, by rw [mapD_snoc]; simpa using hm1⟩, hg1, .inl rfl⟩

end Go.Proofs.YtckkpolikdnilaaGreatDoor
/- What a pool's questions read of it; isNoTerm, hasNoSymbol, hasWrongForm. -/
namespace Go.Proofs.YtckkpolikdnilaaGreatDoor
open Go.RowKit Big Go.WideMaps

/-- rows of symbols -/
def SyAt (w : World) (v : Value) (l : List Sy) : Prop :=
  ∃ p cap, v = .slice p l.length cap ∧ l.length ≤ cap ∧ cap ≤ maxLen ∧ (p = none → cap = 0) ∧
    (0 < l.length → ∃ b, p = some ⟨b, 0, none⟩ ∧ b < w.heap.size ∧ ∀ i (h : i < l.length), w.cell? ⟨b, i * 3, none⟩ = some (.string ⟨l[i].name.toArray⟩) ∧ w.cell? ⟨b, i * 3 + 1, none⟩ = some (.int .i64 l[i].arity) ∧ w.cell? ⟨b, i * 3 + 2, none⟩ = some (.int .i64 l[i].sort))
theorem SyAt.below {w w' : World} {v : Value} {l : List Sy} (h : SyAt w v l) (hb : Below w.heap.size w w') : SyAt w' v l := by
  obtain ⟨p, cap, hv, h1, h2, h3, h4⟩ := h
  refine ⟨p, cap, hv, h1, h2, h3, fun hp => ?_⟩
  obtain ⟨b, h5, h6, h7⟩ := h4 hp
  exact ⟨b, h5, Nat.lt_of_lt_of_le h6 hb.size, fun i hi => ⟨(hb.cell (p := ⟨b, i * 3, none⟩) h6).trans (h7 i hi).1, (hb.cell (p := ⟨b, i * 3 + 1, none⟩) h6).trans (h7 i hi).2.1, (hb.cell (p := ⟨b, i * 3 + 2, none⟩) h6).trans (h7 i hi).2.2⟩⟩
/-- a pool, as far as its questions read it -/
def PoRd (w : World) (g : Nat) (p : Po) : Prop := ∃ ps cs pt ct po co mn mk,
  w.heap[g]? = some (.cells #[.slice ps p.syms.length cs, .slice pt p.terms.length ct, .slice po p.sorts.length co, .map mn, .map mk] 119 (0, 0)) ∧
  SyAt w (.slice ps p.syms.length cs) p.syms ∧ IAt w (.slice po p.sorts.length co) p.sorts ∧ p.terms.length ≤ 4096 ∧ p.syms.length ≤ 256 ∧ p.sorts.length = p.terms.length
theorem PoRd.below {w w' : World} {g : Nat} {p : Po} (h : PoRd w g p) (hb : Below w.heap.size w w') : PoRd w' g p := by
  obtain ⟨ps, cs, pt, ct, po, co, mn, mk, h1, h2, h3, h4, h5, h6⟩ := h
  have hlt := lt_of_block h1
  exact ⟨ps, cs, pt, ct, po, co, mn, mk, (hb.block g hlt).trans h1, h2.below hb, h3.below hb, h4, h5, h6⟩
theorem five_cells {w : World} {g : Nat} {a b c d e : Value} {t : TypeId} (h : w.heap[g]? = some (.cells #[a, b, c, d, e] t (0, 0))) :
    w.cell? ⟨g, 0, none⟩ = some a ∧ w.cell? ⟨g, 1, none⟩ = some b ∧ w.cell? ⟨g, 2, none⟩ = some c ∧ w.cell? ⟨g, 3, none⟩ = some d ∧ w.cell? ⟨g, 4, none⟩ = some e := by
  simp [World.cell?, h]

theorem below_drewN {B : Nat} {w w' : World} (h : Below B w w') (n : Nat) : Below B w (w'.drewN n) := by
  obtain ⟨a, b, c, d, e⟩ := h
  exact ⟨a, b, c, d, e⟩
theorem cell_new5 (w : World) (a b c d e : Value) (t : TypeId) :
    (w.alloc (.cells #[a, b, c, d, e] t)).cell? ⟨w.heap.size, 0, none⟩ = some a ∧ (w.alloc (.cells #[a, b, c, d, e] t)).cell? ⟨w.heap.size, 1, none⟩ = some b ∧ (w.alloc (.cells #[a, b, c, d, e] t)).cell? ⟨w.heap.size, 2, none⟩ = some c ∧
    (w.alloc (.cells #[a, b, c, d, e] t)).cell? ⟨w.heap.size, 3, none⟩ = some d ∧ (w.alloc (.cells #[a, b, c, d, e] t)).cell? ⟨w.heap.size, 4, none⟩ = some e := five_cells (heap_alloc_new w _)

set_option maxRecDepth 100000 in
set_option maxHeartbeats 1600000 in
theorem isNoTerm_any (g : Nat) (p : Po) (n : Int) (w : World) (h : PoRd w g p) :
    Calls Tryz.prog 140 #[.pointer (some ⟨g, 0, none⟩), .int .i64 n] w (RBool (plNoTerm p n) w) := by
  obtain ⟨ps, cs, pt, ct, po, co, mn, mk, h1, h2, h3, h4, h5, h6⟩ := h
  obtain ⟨c0, c1, c2, c3, c4⟩ := five_cells h1
  clear h1 h2 h3 h6
  unfold plNoTerm
  generalize p.terms.length = L at *
  go_enter Tryz.func140, Tryz.ntmps140
  go_wp2
  all_goals
    go_ret
    exact ⟨by simp_all, Below.refl _ _⟩

set_option maxRecDepth 100000 in
set_option maxHeartbeats 3200000 in
theorem hasNoSymbol_any (g : Nat) (p : Po) (t : Tm) (v : Value) (w : World) (h : PoRd w g p) (ht : TmRaw w v t) :
    Calls Tryz.prog 125 #[.pointer (some ⟨g, 0, none⟩), v] w (RBool (plNoSym p t) w) := by
  obtain ⟨ps, cs, pt, ct, po, co, mn, mk, h1, h2, h3, h4, h5, h6⟩ := h
  have hlt := lt_of_block h1
  obtain ⟨c0, c1, c2, c3, c4⟩ := five_cells h1
  obtain ⟨pa, ca, b, pm, nm, cm, rfl, -, -⟩ := ht
  clear h1 h2 h3 h6 c1 c2 c3 c4
  have hr : plNoSym p t = (t.op == 4 && (decide (t.sym < 0) || decide ((p.syms.length : Int) ≤ t.sym))) := rfl
  rw [hr]
  clear hr
  generalize p.syms.length = L at *
  obtain ⟨op, args, num, sym⟩ := t
  dsimp only at *
  generalize args.length = na at *
  have q0 := cell_new5 w (.int .i64 op) (.slice pa na ca) (.bool b) (.slice pm nm cm) (.int .i64 sym) 71
  have q1 : ∀ o, (w.alloc o).cell? ⟨g, 0, none⟩ = some (.slice ps L cs) := fun o => ((below1 w o).cell (p := ⟨g, 0, none⟩) hlt).trans c0
  by_cases d1 : op = 4
  · by_cases d2 : sym < 0
    · have e1 : (op == 4) = true := by simpa using d1
      have e2 : decide (sym < 0) = true := by simpa using d2
      rw [e1, e2]
      clear d1 d2
      go_enter Tryz.func125, Tryz.ntmps125
      go_wp2_with fail
      go_quiet (fail)
      go_wp2
      go_ret
      exact ⟨rfl, below_drewN (below1 _ _) _⟩
    · have e1 : (op == 4) = true := by simpa using d1
      have e2 : decide (sym < 0) = false := by simpa using d2
      rw [e1, e2]
      clear d1 d2
      go_enter Tryz.func125, Tryz.ntmps125
      go_wp2_with fail
      go_quiet (fail)
      go_wp2
      go_ret
      exact ⟨by simp, below_drewN (below1 _ _) _⟩
  · have e1 : (op == 4) = false := by simpa using d1
    rw [e1]
    clear d1
    go_enter Tryz.func125, Tryz.ntmps125
    go_wp2_with fail
    go_quiet (fail)
    go_wp2
    go_ret
    exact ⟨rfl, below_drewN (below1 _ _) _⟩

end Go.Proofs.YtckkpolikdnilaaGreatDoor
/- pool.hasWrongForm. -/
namespace Go.Proofs.YtckkpolikdnilaaGreatDoor
open Go.RowKit Big Go.WideMaps

theorem rule_parts (op : Int) : ∃ le mo pa so nu sy, plRu op = ⟨le, mo, pa, so, nu, sy⟩ := by
  cases plRu op
  exact ⟨_, _, _, _, _, _, rfl⟩
set_option maxRecDepth 100000 in
set_option maxHeartbeats 3200000 in
theorem hasWrongForm_any (t : Tm) (v : Value) (w : World) (ht : TmRaw w v t) : Calls Tryz.prog 124 #[v] w (RBool (plBadForm t) w) := by
  obtain ⟨pa, ca, b, pm, nm, cm, rfl, -, hm⟩ := ht
  have hr : plBadForm t = (!(plRule t.op).isSome || (!(plRu t.op).num && t.num != 0) || (!(plRu t.op).sym && t.sym != 0)) := by
    unfold plBadForm
    cases plRule t.op <;> rfl
  rw [hr]
  clear hr
  have hru := fun w => ruleOf_any t.op w
  unfold RRule Ru.val at hru
  obtain ⟨le, mo, pt, so, nu, sy, hp⟩ := rule_parts t.op
  rw [hp] at hru ⊢
  clear hp
  generalize (plRule t.op).isSome = ok at *
  dsimp only at *
  have q0 := cell_new5 w (.int .i64 t.op) (.slice pa t.args.length ca) (.bool b) (.slice pm nm cm) (.int .i64 t.sym) 71
  obtain ⟨x0, x1, x2, x3, x4⟩ := q0
  have hlt : w.heap.size < (w.alloc (.cells #[.int .i64 t.op, .slice pa t.args.length ca, .bool b, .slice pm nm cm, .int .i64 t.sym] 71)).heap.size := by simp
  have hbw := below1 w (.cells #[.int .i64 t.op, .slice pa t.args.length ca, .bool b, .slice pm nm cm, .int .i64 t.sym] 71)
  have Hru := hid hru
  have hsg : ∀ w', Below w.heap.size w w' → Calls Tryz.prog 57 #[.agg #[.bool b, .slice pm nm cm]] w' (fun e w'' => e = .returned (.int .i64 t.num.sign) ∧ Below w'.heap.size w' w'') := fun w' h => Sign_any _ _ _ (hm.below h)
  have hz : (t.num.sign != 0) = (t.num != 0) := by
    by_cases h : t.num = 0
    · simp [h]
    · have : t.num.sign ≠ 0 := fun e => h (Int.sign_eq_zero_iff_zero.1 e)
      rw [bne_iff_ne.2 this, bne_iff_ne.2 h]
  rw [← hz]
  have Hsg := hid hsg
  clear hru hm hsg hz
  obtain ⟨op, args, num, sym⟩ := t
  dsimp only at *
  generalize args.length = na at *
  generalize num.sign = sg at *
  go_enter Tryz.func124, Tryz.ntmps124
  go_wp2_with fail
  generalize hW : (w.alloc _) = W at *
  refine (Hru.out _).mono ?_
  rintro e w1 ⟨rfl, b1⟩
  have y0 := (b1.cell (p := ⟨w.heap.size, 0, none⟩) hlt).trans x0
  have y2 := (b1.cell (p := ⟨w.heap.size, 2, none⟩) hlt).trans x2
  have y3 := (b1.cell (p := ⟨w.heap.size, 3, none⟩) hlt).trans x3
  have y4 := (b1.cell (p := ⟨w.heap.size, 4, none⟩) hlt).trans x4
  have bw1 : Below w.heap.size w w1 := hbw.trans (b1.mono (by omega))
  have hsz := b1.size
  clear x0 x1 x2 x3 x4 hW b1
  go_upto_region 2 with fail
  have z := six_cells (heap_alloc_new w1 (.cells #[.int .i64 le, .int .i64 mo, .int .i64 pt, .int .i64 so, .bool nu, .bool sy] 151))
  obtain ⟨-, -, -, -, z4, z5⟩ := z
  have b3 := below1 w1 (.cells #[.int .i64 le, .int .i64 mo, .int .i64 pt, .int .i64 so, .bool nu, .bool sy] 151)
  have hs3 := size_alloc w1 (.cells #[.int .i64 le, .int .i64 mo, .int .i64 pt, .int .i64 so, .bool nu, .bool sy] 151)
  have y2 := (b3.cell (p := ⟨w.heap.size, 2, none⟩) (by dsimp only; omega)).trans y2
  have y3 := (b3.cell (p := ⟨w.heap.size, 3, none⟩) (by dsimp only; omega)).trans y3
  have y4 := (b3.cell (p := ⟨w.heap.size, 4, none⟩) (by dsimp only; omega)).trans y4
  have bw3 : Below w.heap.size w (w1.alloc (.cells #[.int .i64 le, .int .i64 mo, .int .i64 pt, .int .i64 so, .bool nu, .bool sy] 151)) := bw1.trans (b3.mono (by omega))
  have hlw : w.heap.size < w1.heap.size := by omega
  clear y0 bw1 b3 hbw hlt
  generalize hW3 : (w1.alloc (.cells #[.int .i64 le, .int .i64 mo, .int .i64 pt, .int .i64 so, .bool nu, .bool sy] 151)) = W3 at *
  clear hW3
  generalize hn : w1.heap.size = N1 at *
  clear hn
  cases hsgb : (sg != 0) <;> cases ok <;> cases nu <;> cases sy
  all_goals
    go_wp2_with (go_at_call 57; refine (Hsg.out _ bw3).mono ?_; rintro e w4 ⟨rfl, b4⟩; have y4' := (b4.cell (p := ⟨w.heap.size, 4, none⟩) (by dsimp only; omega)).trans y4; have z5' := (b4.cell (p := ⟨N1, 5, none⟩) (by dsimp only; omega)).trans z5; have bw4 := bw3.trans (b4.mono (by omega)))
    go_ret
    exact ⟨by simp_all, by first | exact bw4 | exact bw3⟩
end Go.Proofs.YtckkpolikdnilaaGreatDoor
/- pool.hasWrongCount, sortOf, partSort. -/
namespace Go.Proofs.YtckkpolikdnilaaGreatDoor
open Go.RowKit Big Go.WideMaps

set_option maxRecDepth 100000 in
set_option maxHeartbeats 3200000 in
theorem hasWrongCount_any (g : Nat) (p : Po) (t : Tm) (v : Value) (w : World) (h : PoRd w g p) (ht : TmRaw w v t) (hs : plNoSym p t = false) :
    Calls Tryz.prog 127 #[.pointer (some ⟨g, 0, none⟩), v] w (RBool (plBadCount p t) w) := by
  obtain ⟨ps, cs, pt, ct, po, co, mn, mk, h1, h2, h3, h4, h5, h6⟩ := h
  have hlt := lt_of_block h1
  obtain ⟨c0, c1, c2, c3, c4⟩ := five_cells h1
  obtain ⟨pa, ca, b, pm, nm, cm, rfl, hl, -⟩ := ht
  have hna : t.args.length ≤ maxLen := by obtain ⟨_, _, e, k1, k2, _⟩ := hl; cases e; omega
  have q0 := cell_new5 w (.int .i64 t.op) (.slice pa t.args.length ca) (.bool b) (.slice pm nm cm) (.int .i64 t.sym) 71
  obtain ⟨x0, x1, x2, x3, x4⟩ := q0
  have b0 := below1 w (.cells #[.int .i64 t.op, .slice pa t.args.length ca, .bool b, .slice pm nm cm, .int .i64 t.sym] 71)
  have hs0 := size_alloc w (.cells #[.int .i64 t.op, .slice pa t.args.length ca, .bool b, .slice pm nm cm, .int .i64 t.sym] 71)
  have g0 := (b0.cell (p := ⟨g, 0, none⟩) hlt).trans c0
  clear h1 h3 h6 hl c0 c1 c2 c3 c4
  by_cases hop : t.op = 4
  · unfold plNoSym at hs
    have hk : ∃ k : Nat, t.sym = (k : Nat) ∧ k < p.syms.length := by
      simp [hop] at hs
      exact ⟨t.sym.toNat, by omega, by omega⟩
    obtain ⟨k, hk, hkl⟩ := hk
    obtain ⟨ps', cap, e, i1, i2, i3, i4⟩ := h2
    cases e
    obtain ⟨bb, rfl, j1, j2⟩ := i4 (by omega)
    obtain ⟨m0, m1, m2⟩ := j2 k hkl
    have g1 := (b0.cell (p := ⟨bb, k * 3 + 1, none⟩) j1).trans m1
    have hr : plBadCount p t = ((t.args.length : Int) != p.syms[k].arity) := by
      unfold plBadCount plSymAt
      simp [hop, hk, hkl]
    rw [hr]
    rw [hk] at x4 b0 hs0 g0 g1 x0 x1 x2 x3 ⊢
    rw [hop] at x4 b0 hs0 g0 g1 x0 x1 x2 x3 ⊢
    clear hr j2 m0 m1 m2 hs hk hop i4
    generalize p.syms[k].arity = ar at *
    generalize p.syms.length = L at *
    generalize t.args.length = na at *
    go_enter Tryz.func127, Tryz.ntmps127
    go_wp2
    go_quiet (fail)
    go_wp2
    go_ret
    exact ⟨by simp, below_drewN b0 _⟩
  · have hr : plBadCount p t = (decide ((t.args.length : Int) < (plRu t.op).least) || decide ((plRu t.op).most < (t.args.length : Int))) := by
      unfold plBadCount
      rw [if_neg hop]
    rw [hr]
    have hru := fun w => ruleOf_any t.op w
    unfold RRule Ru.val at hru
    obtain ⟨le, mo, pt, so, nu, sy, hp⟩ := rule_parts t.op
    rw [hp] at hru ⊢
    have Hru := hid hru
    have e4 : (t.op == 4) = false := by simpa using hop
    clear hr hp hop hs h2 g0 hru
    generalize (plRule t.op).isSome = ok at *
    dsimp only at *
    generalize t.args.length = na at *
    generalize t.op = op at *
    have hl0 : w.heap.size < w.heap.size + 1 := by omega
    go_enter Tryz.func127, Tryz.ntmps127
    go_wp2_with fail
    refine (Hru.out _).mono ?_
    rintro e w1 ⟨rfl, b1⟩
    have y1 := (b1.cell (p := ⟨w.heap.size, 1, none⟩) (by dsimp only; omega)).trans x1
    have bw1 : Below w.heap.size w w1 := b0.trans (b1.mono (by omega))
    have hsz := b1.size
    clear x0 x1 x2 x3 x4 b1 b0
    go_upto_region 4 with fail
    have z := six_cells (heap_alloc_new w1 (.cells #[.int .i64 le, .int .i64 mo, .int .i64 pt, .int .i64 so, .bool nu, .bool sy] 151))
    obtain ⟨z0, z1, -, -, -, -⟩ := z
    have b3 := below1 w1 (.cells #[.int .i64 le, .int .i64 mo, .int .i64 pt, .int .i64 so, .bool nu, .bool sy] 151)
    have y1 := (b3.cell (p := ⟨w.heap.size, 1, none⟩) (by dsimp only; omega)).trans y1
    have bw3 : Below w.heap.size w (w1.alloc (.cells #[.int .i64 le, .int .i64 mo, .int .i64 pt, .int .i64 so, .bool nu, .bool sy] 151)) := bw1.trans (b3.mono (by omega))
    clear bw1 b3
    generalize hW3 : (w1.alloc (.cells #[.int .i64 le, .int .i64 mo, .int .i64 pt, .int .i64 so, .bool nu, .bool sy] 151)) = W3 at *
    clear hW3
    go_wp2
    all_goals
      go_ret
      exact ⟨by simp_all, bw3⟩
end Go.Proofs.YtckkpolikdnilaaGreatDoor
/- pool.sortOf, partSort. Made by a program. -/
namespace Go.Proofs.YtckkpolikdnilaaGreatDoor
open Go.RowKit Big Go.WideMaps

/-- of OpIte the second part is there -/
def IteIn (p : Po) (t : Tm) : Prop := t.op = 9 → ∃ (h : 1 < t.args.length) (k : Nat), t.args[1] = (k : Nat) ∧ k < p.terms.length
set_option maxRecDepth 100000 in
set_option maxHeartbeats 3200000 in
theorem sortOf_any (g : Nat) (p : Po) (t : Tm) (v : Value) (w : World) (h : PoRd w g p) (ht : TmRaw w v t) (hs : plNoSym p t = false) (h9 : IteIn p t) :
    Calls Tryz.prog 102 #[.pointer (some ⟨g, 0, none⟩), v] w (RNum .i64 (plSort p t) w) := by
  obtain ⟨ps, cs, pt, ct, po, co, mn, mk, h1, h2, h3, h4, h5, h6⟩ := h
  have hlt := lt_of_block h1
  obtain ⟨c0, c1, c2, c3, c4⟩ := five_cells h1
  obtain ⟨pa, ca, b, pm, nm, cm, rfl, hl, -⟩ := ht
  have hna : t.args.length ≤ maxLen := by obtain ⟨_, _, e, k1, k2, _⟩ := hl; cases e; omega
  have q0 := cell_new5 w (.int .i64 t.op) (.slice pa t.args.length ca) (.bool b) (.slice pm nm cm) (.int .i64 t.sym) 71
  obtain ⟨x0, x1, x2, x3, x4⟩ := q0
  have b0 := below1 w (.cells #[.int .i64 t.op, .slice pa t.args.length ca, .bool b, .slice pm nm cm, .int .i64 t.sym] 71)
  have hs0 := size_alloc w (.cells #[.int .i64 t.op, .slice pa t.args.length ca, .bool b, .slice pm nm cm, .int .i64 t.sym] 71)
  have g0 := (b0.cell (p := ⟨g, 0, none⟩) hlt).trans c0
  have g2 := (b0.cell (p := ⟨g, 2, none⟩) hlt).trans c2
  clear h1 c0 c1 c2 c3 c4
  by_cases hop : t.op = 4
  · unfold plNoSym at hs
    have hk : ∃ k : Nat, t.sym = (k : Nat) ∧ k < p.syms.length := by
      simp [hop] at hs
      exact ⟨t.sym.toNat, by omega, by omega⟩
    obtain ⟨k, hk, hkl⟩ := hk
    obtain ⟨ps', cap, e, i1, i2, i3, i4⟩ := h2
    cases e
    obtain ⟨bb, rfl, j1, j2⟩ := i4 (by omega)
    obtain ⟨m0, m1, m2⟩ := j2 k hkl
    have g1 := (b0.cell (p := ⟨bb, k * 3 + 2, none⟩) j1).trans m2
    have hr : plSort p t = p.syms[k].sort := by
      unfold plSort plSymAt
      simp [hop, hk, hkl]
    rw [hr]
    rw [hk] at x4 b0 hs0 g0 g1 g2 x0 x1 x2 x3 ⊢
    rw [hop] at x4 b0 hs0 g0 g1 g2 x0 x1 x2 x3 ⊢
    clear hr j2 m0 m1 m2 hs hk hop i4 h9 h3 hl
    generalize p.syms[k].sort = ar at *
    generalize p.syms.length = L at *
    generalize t.args.length = na at *
    go_enter Tryz.func102, Tryz.ntmps102
    go_wp2
    go_quiet (fail)
    go_wp2
    go_ret
    exact ⟨rfl, below_drewN b0 _⟩
  by_cases h9op : t.op = 9
  · have hr : plSort p t = plSortAt p (t.args[1]?.getD 0) := by
      unfold plSort
      rw [if_neg hop, if_pos h9op]
    rw [hr]
    obtain ⟨h1a, k, hk, hkl⟩ := h9 h9op
    obtain ⟨pa', ca', e, i1, i2, i3, i4⟩ := hl
    cases e
    obtain ⟨bb, off, rfl, j1, j2⟩ := i4 (by omega)
    have m1 := j2 1 h1a
    obtain ⟨po', co', e, n1, n2, n3, n4⟩ := h3
    cases e
    obtain ⟨bc, off', rfl, o1, o2⟩ := n4 (by omega)
    have m2 := o2 k (by omega)
    rw [hk] at m1
    have g1 := (b0.cell (p := ⟨bb, off + 1, none⟩) j1).trans m1
    have g3 := (b0.cell (p := ⟨bc, off' + k, none⟩) o1).trans m2
    have hr' : plSortAt p (t.args[1]?.getD 0) = p.sorts[k] := by
      unfold plSortAt
      rw [List.getElem?_eq_getElem h1a, Option.getD_some, hk]
      simp [h6, hkl]
    rw [hr']
    have hkS : k < p.sorts.length := by omega
    clear hr' m1 m2 j2 o2 hk h9 i4 n4 h2
    generalize p.sorts[k] = so at *
    generalize p.sorts.length = L at *
    generalize t.args.length = na at *
    rw [h9op] at x4 b0 hs0 g0 g1 g2 g3 x0 x1 x2 x3 ⊢
    clear hr hop h9op hs
    go_enter Tryz.func102, Tryz.ntmps102
    go_wp2
    go_quiet (fail)
    go_wp2
    go_ret
    exact ⟨rfl, below_drewN b0 _⟩
  · have hr : plSort p t = (plRu t.op).sort := by
      unfold plSort
      rw [if_neg hop, if_neg h9op]
    rw [hr]
    have e4 : (t.op == 4) = false := by simpa using hop
    have e9 : (t.op == 9) = false := by simpa using h9op
    clear hop h9op h9 hs hl
    have hru := fun w => ruleOf_any t.op w
    unfold RRule Ru.val at hru
    obtain ⟨le, mo, pt, so, nu, sy, hp⟩ := rule_parts t.op
    rw [hp] at hru ⊢
    have Hru := hid hru
    clear hr hp hru h2 h3 g0 g2
    generalize (plRule t.op).isSome = ok at *
    dsimp only at *
    generalize t.args.length = na at *
    generalize t.op = op at *
    have hl0 : w.heap.size < w.heap.size + 1 := by omega
    go_enter Tryz.func102, Tryz.ntmps102
    go_wp2_with fail
    refine (Hru.out _).mono ?_
    rintro e w1 ⟨rfl, b1⟩
    have bw1 : Below w.heap.size w w1 := b0.trans (b1.mono (by omega))
    have hsz := b1.size
    clear x0 x1 x2 x3 x4 b1 b0
    go_upto_region 7 with fail
    have z := six_cells (heap_alloc_new w1 (.cells #[.int .i64 le, .int .i64 mo, .int .i64 pt, .int .i64 so, .bool nu, .bool sy] 151))
    obtain ⟨z0, z1, z2, z3, -, -⟩ := z
    have b3 := below1 w1 (.cells #[.int .i64 le, .int .i64 mo, .int .i64 pt, .int .i64 so, .bool nu, .bool sy] 151)
    have bw3 : Below w.heap.size w (w1.alloc (.cells #[.int .i64 le, .int .i64 mo, .int .i64 pt, .int .i64 so, .bool nu, .bool sy] 151)) := bw1.trans (b3.mono (by omega))
    clear bw1 b3
    generalize hW3 : (w1.alloc (.cells #[.int .i64 le, .int .i64 mo, .int .i64 pt, .int .i64 so, .bool nu, .bool sy] 151)) = W3 at *
    clear hW3
    go_wp2
    all_goals
      go_ret
      exact ⟨rfl, bw3⟩

set_option maxRecDepth 100000 in
set_option maxHeartbeats 3200000 in
theorem partSort_any (g : Nat) (p : Po) (t : Tm) (v : Value) (i : Nat) (w : World) (h : PoRd w g p) (ht : TmRaw w v t) (h9 : IteIn p t) (_hi : i < 9223372036854775808) :
    Calls Tryz.prog 141 #[.pointer (some ⟨g, 0, none⟩), v, .int .i64 (i : Nat)] w (RNum .i64 (plPart p t i) w) := by
  obtain ⟨ps, cs, pt, ct, po, co, mn, mk, h1, h2, h3, h4, h5, h6⟩ := h
  have hlt := lt_of_block h1
  obtain ⟨c0, c1, c2, c3, c4⟩ := five_cells h1
  obtain ⟨pa, ca, b, pm, nm, cm, rfl, hl, -⟩ := ht
  have hna : t.args.length ≤ maxLen := by obtain ⟨_, _, e, k1, k2, _⟩ := hl; cases e; omega
  have q0 := cell_new5 w (.int .i64 t.op) (.slice pa t.args.length ca) (.bool b) (.slice pm nm cm) (.int .i64 t.sym) 71
  obtain ⟨x0, x1, x2, x3, x4⟩ := q0
  have b0 := below1 w (.cells #[.int .i64 t.op, .slice pa t.args.length ca, .bool b, .slice pm nm cm, .int .i64 t.sym] 71)
  have hs0 := size_alloc w (.cells #[.int .i64 t.op, .slice pa t.args.length ca, .bool b, .slice pm nm cm, .int .i64 t.sym] 71)
  have g0 := (b0.cell (p := ⟨g, 0, none⟩) hlt).trans c0
  have g2 := (b0.cell (p := ⟨g, 2, none⟩) hlt).trans c2
  clear h1 c0 c1 c2 c3 c4
  by_cases hc : t.op = 9 ∧ 0 < i
  · have h9op := hc.1
    have hi0 := hc.2
    have hr : plPart p t i = plSortAt p (t.args[1]?.getD 0) := by
      unfold plPart
      rw [if_pos hc]
    rw [hr]
    obtain ⟨h1a, k, hk, hkl⟩ := h9 h9op
    obtain ⟨pa', ca', e, i1, i2, i3, i4⟩ := hl
    cases e
    obtain ⟨bb, off, rfl, j1, j2⟩ := i4 (by omega)
    have m1 := j2 1 h1a
    obtain ⟨po', co', e, n1, n2, n3, n4⟩ := h3
    cases e
    obtain ⟨bc, off', rfl, o1, o2⟩ := n4 (by omega)
    have m2 := o2 k (by omega)
    rw [hk] at m1
    have g1 := (b0.cell (p := ⟨bb, off + 1, none⟩) j1).trans m1
    have g3 := (b0.cell (p := ⟨bc, off' + k, none⟩) o1).trans m2
    have hr' : plSortAt p (t.args[1]?.getD 0) = p.sorts[k] := by
      unfold plSortAt
      rw [List.getElem?_eq_getElem h1a, Option.getD_some, hk]
      simp [h6, hkl]
    rw [hr']
    have hkS : k < p.sorts.length := by omega
    clear hr' m1 m2 j2 o2 hk h9 i4 n4 h2
    generalize p.sorts[k] = so at *
    generalize p.sorts.length = L at *
    generalize t.args.length = na at *
    rw [h9op] at x4 b0 hs0 g0 g1 g2 g3 x0 x1 x2 x3 ⊢
    have ei : decide ((0 : Int) < (i : Nat)) = true := by simpa using hi0
    clear hr h9op hc
    go_enter Tryz.func141, Tryz.ntmps141
    go_wp2
    go_quiet (fail)
    go_wp2
    go_ret
    exact ⟨rfl, below_drewN b0 _⟩
  · have hr : plPart p t i = (plRu t.op).part := by
      unfold plPart
      rw [if_neg hc]
    rw [hr]
    have e9 : (t.op == 9) = false ∨ ((t.op == 9) = true ∧ decide (0 < i) = false) := by
      by_cases h : t.op = 9
      · refine .inr ⟨by simpa using h, ?_⟩
        have : ¬ 0 < i := fun h' => hc ⟨h, h'⟩
        simpa using this
      · exact .inl (by simpa using h)
    clear hc h9 hl
    rcases e9 with e9 | ⟨e9, ei⟩
    all_goals
      have hru := fun w => ruleOf_any t.op w
      unfold RRule Ru.val at hru
      obtain ⟨le, mo, pt, so, nu, sy, hp⟩ := rule_parts t.op
      rw [hp] at hru ⊢
      have Hru := hid hru
      clear hr hp hru h2 h3 g0 g2
      generalize (plRule t.op).isSome = ok at *
      dsimp only at *
      generalize t.args.length = na at *
      generalize t.op = op at *
      have hl0 : w.heap.size < w.heap.size + 1 := by omega
      go_enter Tryz.func141, Tryz.ntmps141
      go_wp2_with fail
      refine (Hru.out _).mono ?_
      rintro e w1 ⟨rfl, b1⟩
      have bw1 : Below w.heap.size w w1 := b0.trans (b1.mono (by omega))
      have hsz := b1.size
      clear x0 x1 x2 x3 x4 b1 b0
      go_upto_region 4 with fail
      have z := six_cells (heap_alloc_new w1 (.cells #[.int .i64 le, .int .i64 mo, .int .i64 pt, .int .i64 so, .bool nu, .bool sy] 151))
      obtain ⟨z0, z1, z2, z3, -, -⟩ := z
      have b3 := below1 w1 (.cells #[.int .i64 le, .int .i64 mo, .int .i64 pt, .int .i64 so, .bool nu, .bool sy] 151)
      have bw3 : Below w.heap.size w (w1.alloc (.cells #[.int .i64 le, .int .i64 mo, .int .i64 pt, .int .i64 so, .bool nu, .bool sy] 151)) := bw1.trans (b3.mono (by omega))
      clear bw1 b3
      generalize hW3 : (w1.alloc (.cells #[.int .i64 le, .int .i64 mo, .int .i64 pt, .int .i64 so, .bool nu, .bool sy] 151)) = W3 at *
      clear hW3
      go_wp2
      all_goals
        go_ret
        exact ⟨rfl, bw3⟩

end Go.Proofs.YtckkpolikdnilaaGreatDoor
/- pool.hasNoPart: slices.IndexFunc, ContainsFunc with isNoTerm. -/
namespace Go.Proofs.YtckkpolikdnilaaGreatDoor
open Go.RowKit Big Go.WideMaps

theorem any_take_succ {α : Type} (f : α → Bool) (l : List α) (k : Nat) (h : k < l.length) (hk : (l.take k).any f = false) (hf : f l[k] = false) : (l.take (k + 1)).any f = false := by
  rw [List.take_succ_eq_append_getElem h, List.any_append, hk]
  simp [hf]
theorem any_of_at {α : Type} (f : α → Bool) (l : List α) (k : Nat) (h : k < l.length) (hf : f l[k] = true) : l.any f = true := List.any_eq_true.2 ⟨l[k], List.getElem_mem h, hf⟩

def RIx (f : Bool) (w : World) (e : Ending) (w' : World) : Prop := ∃ z : Int, e = .returned (.int .i64 z) ∧ decide (0 ≤ z) = f ∧ Below w.heap.size w w'
set_option maxRecDepth 100000 in
set_option maxHeartbeats 3200000 in
theorem indexNoTerm_any (g : Nat) (p : Po) (v : Value) (l : List Int) (w : World) (h : PoRd w g p) (hl : IAt w v l) :
    Calls Tryz.prog 147 #[v, .func (.func 140) #[.pointer (some ⟨g, 0, none⟩)] #[]] w (RIx (l.any (plNoTerm p)) w) := by
  obtain ⟨pa, ca, rfl, i1, i2, i3, i4⟩ := hl
  have Hp := hid h
  have Hi := hid i4
  unfold maxLen at i2
  clear h i4 i3
  go_enter Tryz.func147, Tryz.ntmps147
  go_wp2_with fail
  go_loopw [8] (fun i wr => ∃ k : Nat, k ≤ l.length ∧ i = .int .i64 (k : Nat) ∧ Hid ((l.take k).any (plNoTerm p) = false) ∧ Hid (Below w.heap.size w wr)) (fun i _ => l.length - (intOf i).toNat)
  case atStart => exact ⟨0, Nat.zero_le _, rfl, by unfold Hid; rfl, by unfold Hid; exact Below.refl _ _⟩
  case round =>
    obtain ⟨k, hk, rfl, hany, hb⟩ := hrel
    by_cases hlt : k < l.length
    · have hlt' : (k : Int) < (l.length : Nat) := by omega
      obtain ⟨bb, off, rfl, j1, j2⟩ := Hi.out (by omega)
      have m := (hb.out.cell (p := ⟨bb, off + k, none⟩) j1).trans (j2 k hlt)
      have hc := isNoTerm_any g p l[k] wr (Hp.out.below hb.out)
      have hs1 := any_take_succ (plNoTerm p) l k hlt hany.out
      have hs2 := any_of_at (plNoTerm p) l k hlt
      generalize l[k] = x at *
      generalize plNoTerm p x = r at *
      have Hs1 := hid hs1; have Hs2 := hid hs2; have Hc := hid hc
      clear j2 hs1 hs2 hc hany Hi
      cases r
      · go_wp2_with (refine Hc.out.mono ?_; rintro e w1 ⟨rfl, b1⟩)
        go_roundw
        case rel => exact ⟨k + 1, by omega, rfl, by unfold Hid; exact Hs1.out (by trivial), by unfold Hid; exact hb.out.trans (b1.mono hb.out.size)⟩
        case measure => simp [intOf]; omega
      · go_wp2_with (refine Hc.out.mono ?_; rintro e w1 ⟨rfl, b1⟩)
        go_ret
        exact ⟨_, rfl, by rw [Hs2.out (by trivial)]; simp, hb.out.trans (b1.mono hb.out.size)⟩
    · have hkk : k = l.length := by omega
      subst hkk
      have ha : l.any (plNoTerm p) = false := by have := hany.out; rwa [List.take_length] at this
      have Ha := hid ha
      clear ha hany
      go_wp2_with fail
      go_ret
      exact ⟨_, rfl, by rw [Ha.out]; simp, hb.out⟩

set_option maxRecDepth 100000 in
set_option maxHeartbeats 1600000 in
theorem containsNoTerm_any (g : Nat) (p : Po) (v : Value) (l : List Int) (w : World) (h : PoRd w g p) (hl : IAt w v l) :
    Calls Tryz.prog 139 #[v, .func (.func 140) #[.pointer (some ⟨g, 0, none⟩)] #[]] w (RBool (l.any (plNoTerm p)) w) := by
  have hc := fun w' hb => indexNoTerm_any g p v l w' (h.below (w' := w') hb) (hl.below hb)
  have Hc := hid hc
  obtain ⟨pa, ca, rfl, i1, i2, i3, i4⟩ := hl
  clear hc i4 h
  generalize l.any (plNoTerm p) = f at *
  go_enter Tryz.func139, Tryz.ntmps139
  go_wp2_with fail
  refine (Hc.out _ (Below.refl _ _)).mono ?_
  rintro e w1 ⟨z, rfl, hz, b1⟩
  go_wp2
  go_ret
  exact ⟨rfl, b1⟩

set_option maxRecDepth 100000 in
set_option maxHeartbeats 1600000 in
theorem hasNoPart_any (g : Nat) (p : Po) (t : Tm) (v : Value) (w : World) (h : PoRd w g p) (ht : TmRaw w v t) :
    Calls Tryz.prog 126 #[.pointer (some ⟨g, 0, none⟩), v] w (RBool (plNoPart p t) w) := by
  obtain ⟨pa, ca, b, pm, nm, cm, rfl, hl, -⟩ := ht
  have q0 := cell_new5 w (.int .i64 t.op) (.slice pa t.args.length ca) (.bool b) (.slice pm nm cm) (.int .i64 t.sym) 71
  obtain ⟨-, x1, -, -, -⟩ := q0
  have b0 := below1 w (.cells #[.int .i64 t.op, .slice pa t.args.length ca, .bool b, .slice pm nm cm, .int .i64 t.sym] 71)
  have hc := containsNoTerm_any g p _ _ _ (h.below b0) (hl.below b0)
  have hs0 := size_alloc w (.cells #[.int .i64 t.op, .slice pa t.args.length ca, .bool b, .slice pm nm cm, .int .i64 t.sym] 71)
  have Hc := hid hc
  have hr : plNoPart p t = t.args.any (plNoTerm p) := rfl
  rw [hr]
  clear hc h hl hr
  generalize t.args.any (plNoTerm p) = f at *
  generalize t.args.length = na at *
  go_enter Tryz.func126, Tryz.ntmps126
  go_wp2_with fail
  refine Hc.out.mono ?_
  rintro e w1 ⟨rfl, b1⟩
  go_wp2
  go_ret
  exact ⟨rfl, b0.trans (b1.mono (by omega))⟩
end Go.Proofs.YtckkpolikdnilaaGreatDoor
/- pool.hasWrongSort. -/
namespace Go.Proofs.YtckkpolikdnilaaGreatDoor
open Go.RowKit Big Go.WideMaps

theorem bel_go {u w w' : World} (hb : Below w.heap.size w w') (h : Below u.heap.size u w) : Below u.heap.size u w' := h.trans (hb.mono h.size)
theorem zip_any {α : Type} (f : α × Nat → Bool) (l : List α) : ∀ (k : Nat), ((l.zipIdx k).any f = true ↔ ∃ i, ∃ h : i < l.length, f (l[i], k + i) = true) := by
  induction l with
  | nil => intro k; simp
  | cons a l ih =>
    intro k
    rw [List.zipIdx_cons, List.any_cons, Bool.or_eq_true, ih]
    constructor
    · rintro (h | ⟨i, h, e⟩)
      · exact ⟨0, by simp, by simpa using h⟩
      · exact ⟨i + 1, by simpa using h, by rw [show k + (i + 1) = k + 1 + i by omega]; simpa using e⟩
    · rintro ⟨i, h, e⟩
      cases i with
      | zero => exact .inl (by simpa using e)
      | succ i => exact .inr ⟨i, by simpa using h, by rw [show k + 1 + i = k + (i + 1) by omega]; simpa using e⟩
/-- a part is out of its sort -/
def plBadAt (p : Po) (t : Tm) (i : Nat) (a : Int) : Bool := plSortAt p a != plPart p t i
theorem badSort_of (p : Po) (t : Tm) (i : Nat) (h : i < t.args.length) (hb : plBadAt p t i t.args[i] = true) : plBadSort p t = true := by
  unfold plBadSort
  rw [zip_any]
  exact ⟨i, h, by simpa [plBadAt] using hb⟩
theorem badSort_none (p : Po) (t : Tm) (h : ∀ i (h : i < t.args.length), plBadAt p t i t.args[i] = false) : plBadSort p t = false := by
  cases hb : plBadSort p t with
  | false => rfl
  | true =>
    unfold plBadSort at hb
    rw [zip_any] at hb
    obtain ⟨i, hi, e⟩ := hb
    have := h i hi
    unfold plBadAt at this
    simp at e this
    exact absurd this e

set_option maxRecDepth 100000 in
set_option maxHeartbeats 6400000 in
theorem hasWrongSort_any (g : Nat) (p : Po) (t : Tm) (v : Value) (w : World) (h : PoRd w g p) (ht : TmRaw w v t) (h9 : IteIn p t) (hp : plNoPart p t = false) :
    Calls Tryz.prog 128 #[.pointer (some ⟨g, 0, none⟩), v] w (RBool (plBadSort p t) w) := by
  have Hpt := hid ht
  have Hpo := hid h
  obtain ⟨pa, ca, b, pm, nm, cm, rfl, hl, -⟩ := ht
  obtain ⟨ps, cs, pt, ct, po, co, mn, mk, h1, h2, h3, h4, h5, h6⟩ := h
  have hlt := lt_of_block h1
  obtain ⟨c0, c1, c2, c3, c4⟩ := five_cells h1
  have q0 := cell_new5 w (.int .i64 t.op) (.slice pa t.args.length ca) (.bool b) (.slice pm nm cm) (.int .i64 t.sym) 71
  have b0 := below1 w (.cells #[.int .i64 t.op, .slice pa t.args.length ca, .bool b, .slice pm nm cm, .int .i64 t.sym] 71)
  have hs0 := size_alloc w (.cells #[.int .i64 t.op, .slice pa t.args.length ca, .bool b, .slice pm nm cm, .int .i64 t.sym] 71)
  have HN := hid (badSort_none p t)
  have HY := hid (badSort_of p t)
  have hin : ∀ i (h : i < t.args.length), ∃ m : Nat, t.args[i] = (m : Nat) ∧ m < p.terms.length := by
    intro i hi
    have h0 : plNoTerm p t.args[i] = false := by
      cases hx : plNoTerm p t.args[i] with
      | false => rfl
      | true =>
        have h2 : plNoPart p t = true := List.any_eq_true.2 ⟨_, List.getElem_mem hi, hx⟩
        rw [hp] at h2
        cases h2
    unfold plNoTerm at h0
    simp at h0
    exact ⟨t.args[i].toNat, by omega, by omega⟩
  have Hin := hid hin
  have hpart := fun i w' hi hb => partSort_any g p t _ i w' (Hpo.out.below (w' := w') hb) (Hpt.out.below hb) h9 hi
  have Hpart := hid hpart
  obtain ⟨pa', ca', e, i1, i2, i3, i4⟩ := hl
  cases e
  obtain ⟨po', co', e, n1, n2, n3, n4⟩ := h3
  cases e
  have Hi := hid i4
  have Hn := hid n4
  unfold maxLen at i2
  have Hz := hid h6
  clear hin hpart h1 h2 h4 h5 h6 i4 n4 i3 n3 n1 n2 hp h9 Hpt Hpo c0 c1 c3 c4
  have Hq := hid q0
  have Hc2 := hid ((b0.cell (p := ⟨g, 2, none⟩) hlt).trans c2)
  have x1 := q0.2.1
  clear q0 c2
  generalize hW : (w.alloc (.cells #[.int .i64 t.op, .slice pa t.args.length ca, .bool b, .slice pm nm cm, .int .i64 t.sym] 71)) = W0 at *
  go_enter Tryz.func128, Tryz.ntmps128
  subst hW
  go_wp2_with fail
  generalize hW : (w.alloc (.cells #[.int .i64 t.op, .slice pa t.args.length ca, .bool b, .slice pm nm cm, .int .i64 t.sym] 71)) = W0 at *
  clear hW
  go_loopw [10] (fun i wr => ∃ k : Nat, k ≤ t.args.length ∧ i = .int .i64 (k : Nat) ∧ Hid (∀ i (h : i < t.args.length), i < k → plBadAt p t i t.args[i] = false) ∧ Hid (Below W0.heap.size W0 wr)) (fun i _ => t.args.length - (intOf i).toNat)
  case atStart => exact ⟨0, Nat.zero_le _, rfl, by unfold Hid; intro i h hk; omega, by unfold Hid; exact Below.refl _ _⟩
  case round =>
    obtain ⟨k, hk, rfl, hany, Hbo⟩ := hrel
    by_cases hlt' : k < t.args.length
    · have hlti : (k : Int) < (t.args.length : Nat) := by omega
      obtain ⟨ba, off, rfl, j1, j2⟩ := Hi.out (by omega)
      have hbw : Below w.heap.size w wr := b0.trans (Hbo.out.mono (by omega))
      have m1 := (hbw.cell (p := ⟨ba, off + k, none⟩) j1).trans (j2 k hlt')
      obtain ⟨m, hm, hml⟩ := Hin.out k hlt'
      have hms : m < p.sorts.length := by rw [Hz.out]; exact hml
      obtain ⟨bc, off', rfl, o1, o2⟩ := Hn.out (by omega)
      have m2 := (hbw.cell (p := ⟨bc, off' + m, none⟩) o1).trans (o2 m hms)
      have hbad : plBadAt p t k t.args[k] = (p.sorts[m] != plPart p t k) := by
        unfold plBadAt plSortAt
        rw [hm]
        simp [hms]
      have hnext : (p.sorts[m] != plPart p t k) = false → ∀ i (h : i < t.args.length), i < k + 1 → plBadAt p t i t.args[i] = false := by
        intro hx i hi hik
        by_cases hk' : i = k
        · subst hk'; rw [hbad]; exact hx
        · exact hany.out i hi (by omega)
      have hyes : (p.sorts[m] != plPart p t k) = true → plBadSort p t = true := fun hx => HY.out k hlt' (by rw [hbad]; exact hx)
      have hcall : ∀ W, Below wr.heap.size wr W → Calls Tryz.prog 141 #[.pointer (some ⟨g, 0, none⟩), .agg #[.int .i64 t.op, .slice (some ⟨ba, off, none⟩) t.args.length ca, .bool b, .slice pm nm cm, .int .i64 t.sym], .int .i64 (k : Nat)] W (RNum .i64 (plPart p t k) W) := fun W hb' => Hpart.out k W (by omega) (hbw.trans (hb'.mono hbw.size))
      have hwz : w.heap.size < W0.heap.size := by omega
      have hgz : g < W0.heap.size := by omega
      have hbc : bc < wr.heap.size := Nat.lt_of_lt_of_le o1 hbw.size
      have hwr : W0.heap.size ≤ wr.heap.size := Hbo.out.size
      have Hnext := hid hnext; have Hyes := hid hyes; have Hcall := hid hcall
      rw [hm] at m1
      clear hbad hnext hyes hcall hm o2 j2 Hpart Hin Hi Hn hany HN HY
      generalize p.sorts[m] = S at *
      generalize plPart p t k = P at *
      have HS : Hid (∀ w', Below wr.heap.size wr w' → w'.cell? ⟨g, 2, none⟩ = some (.slice (some ⟨bc, off', none⟩) p.sorts.length co) ∧ w'.cell? ⟨bc, off' + m, none⟩ = some (.int .i64 S) ∧ w'.cell? ⟨w.heap.size, 0, none⟩ = some (.int .i64 t.op) ∧ w'.cell? ⟨w.heap.size, 1, none⟩ = some (.slice (some ⟨ba, off, none⟩) t.args.length ca) ∧ w'.cell? ⟨w.heap.size, 2, none⟩ = some (.bool b) ∧ w'.cell? ⟨w.heap.size, 3, none⟩ = some (.slice pm nm cm) ∧ w'.cell? ⟨w.heap.size, 4, none⟩ = some (.int .i64 t.sym) ∧ Below wr.heap.size wr w') := fun w' hw => by
        obtain ⟨q0, q1, q2, q3, q4⟩ := Hq.out
        have hw0 : Below W0.heap.size W0 w' := Hbo.out.trans (hw.mono hwr)
        exact ⟨(hw0.cell (p := ⟨g, 2, none⟩) hgz).trans Hc2.out, (hw.cell (p := ⟨bc, off' + m, none⟩) hbc).trans m2, (hw0.cell (p := ⟨w.heap.size, 0, none⟩) hwz).trans q0, (hw0.cell (p := ⟨w.heap.size, 1, none⟩) hwz).trans q1,
          (hw0.cell (p := ⟨w.heap.size, 2, none⟩) hwz).trans q2, (hw0.cell (p := ⟨w.heap.size, 3, none⟩) hwz).trans q3, (hw0.cell (p := ⟨w.heap.size, 4, none⟩) hwz).trans q4, hw⟩
      cases hsp : (S != P)
      all_goals
        go_upto_region 4 with fail
        go_region_held3 (fun w' => w'.cell? ⟨g, 2, none⟩ = some (.slice (some ⟨bc, off', none⟩) p.sorts.length co) ∧ w'.cell? ⟨bc, off' + m, none⟩ = some (.int .i64 S) ∧ w'.cell? ⟨w.heap.size, 0, none⟩ = some (.int .i64 t.op) ∧ w'.cell? ⟨w.heap.size, 1, none⟩ = some (.slice (some ⟨ba, off, none⟩) t.args.length ca) ∧ w'.cell? ⟨w.heap.size, 2, none⟩ = some (.bool b) ∧ w'.cell? ⟨w.heap.size, 3, none⟩ = some (.slice pm nm cm) ∧ w'.cell? ⟨w.heap.size, 4, none⟩ = some (.int .i64 t.sym) ∧ Below wr.heap.size wr w')
          (first | exact HS.out _ (Below.drew (Below.refl _ _)) | (refine HS.out _ (bel_go hb ?_); go_split_ands; assumption))
          (first
            | (go_at_call 141; refine (Hcall.out _ (by go_split_ands; assumption)).mono ?_; rintro e w6 ⟨rfl, hb⟩))
        have hbl : Below W0.heap.size W0 w6 := Hbo.out.trans ((bel_go hb (Below.drew (Below.refl _ _))).mono hwr)
        have HB6 := hid hbl
        clear hb hbl
        go_split_ands
        go_wp2_with fail
      · go_roundw
        case rel => exact ⟨k + 1, by omega, rfl, hid (Hnext.out (by trivial)), HB6⟩
        case measure => simp [intOf]; omega
      · go_ret
        exact ⟨by rw [Hyes.out (by trivial)]; rfl, b0.trans (HB6.out.mono (by omega))⟩
    · have hkk : k = t.args.length := by omega
      subst hkk
      have hn := HN.out (fun i hi => hany.out i hi hi)
      have Hn' := hid hn
      clear hn hany HN HY Hpart Hin Hi Hn
      go_wp2_with fail
      go_ret
      exact ⟨by rw [Hn'.out]; rfl, b0.trans (Hbo.out.mono (by omega))⟩
end Go.Proofs.YtckkpolikdnilaaGreatDoor
/- Numbers, rows and tables that are handed in, or that a call has made: how they read. -/
namespace Go.Proofs.YtckkpolikdnilaaGreatDoor
open Go.RowKit Big Go.WideMaps

/-- a slice that reads as a list of numbers -/
def NumsIn (w : World) (v : Value) (l : List Int) : Prop :=
  ∃ p cap, v = .slice p l.length cap ∧ l.length ≤ cap ∧ cap ≤ maxLen ∧ (p = none → cap = 0) ∧
    (0 < l.length → ∃ b off, p = some ⟨b, off, none⟩ ∧ b < w.heap.size ∧ ∀ i (h : i < l.length), ∃ n s, w.cell? ⟨b, off + i * 2, none⟩ = some (.bool n) ∧ w.cell? ⟨b, off + i * 2 + 1, none⟩ = some s ∧ RawAt w (.agg #[.bool n, s]) l[i])
theorem NumsIn.nil (w : World) : NumsIn w (.slice none 0 0) [] := ⟨none, 0, rfl, by simp, by simp [maxLen], fun _ => rfl, fun h => absurd h (by simp)⟩
theorem NumsIn.below {w w' : World} {v : Value} {l : List Int} (h : NumsIn w v l) (hb : Below w.heap.size w w') : NumsIn w' v l := by
  obtain ⟨p, cap, hv, h1, h2, h3, h4⟩ := h
  refine ⟨p, cap, hv, h1, h2, h3, fun hp => ?_⟩
  obtain ⟨b, off, h5, h6, h7⟩ := h4 hp
  refine ⟨b, off, h5, Nat.lt_of_lt_of_le h6 hb.size, fun i hi => ?_⟩
  obtain ⟨n, s, k1, k2, k3⟩ := h7 i hi
  exact ⟨n, s, (hb.cell (p := ⟨b, off + i * 2, none⟩) h6).trans k1, (hb.cell (p := ⟨b, off + i * 2 + 1, none⟩) h6).trans k2, k3.below hb⟩
/-- a row of a table, by its cells -/
def RowIs (w : World) (a : Value) (n : Bool) (s : Value) (x : List Int × Int) : Prop := NumsIn w a x.1 ∧ RawAt w (.agg #[.bool n, s]) x.2
def RowsIn (w : World) (v : Value) (l : List (List Int × Int)) : Prop :=
  ∃ p cap, v = .slice p l.length cap ∧ l.length ≤ cap ∧ cap ≤ maxLen ∧ (p = none → cap = 0) ∧
    (0 < l.length → ∃ b off, p = some ⟨b, off, none⟩ ∧ b < w.heap.size ∧ ∀ i (h : i < l.length), ∃ a n s, w.cell? ⟨b, off + i * 3, none⟩ = some a ∧ w.cell? ⟨b, off + i * 3 + 1, none⟩ = some (.bool n) ∧ w.cell? ⟨b, off + i * 3 + 2, none⟩ = some s ∧ RowIs w a n s l[i])
theorem RowsIn.below {w w' : World} {v : Value} {l : List (List Int × Int)} (h : RowsIn w v l) (hb : Below w.heap.size w w') : RowsIn w' v l := by
  obtain ⟨p, cap, hv, h1, h2, h3, h4⟩ := h
  refine ⟨p, cap, hv, h1, h2, h3, fun hp => ?_⟩
  obtain ⟨b, off, h5, h6, h7⟩ := h4 hp
  refine ⟨b, off, h5, Nat.lt_of_lt_of_le h6 hb.size, fun i hi => ?_⟩
  obtain ⟨a, n, s, k1, k2, k3, k4, k5⟩ := h7 i hi
  exact ⟨a, n, s, (hb.cell (p := ⟨b, off + i * 3, none⟩) h6).trans k1, (hb.cell (p := ⟨b, off + i * 3 + 1, none⟩) h6).trans k2, (hb.cell (p := ⟨b, off + i * 3 + 2, none⟩) h6).trans k3, k4.below hb, k5.below hb⟩
/-- a table by its three values -/
def TabIs (w : World) (a : Value) (n : Bool) (s : Value) (t : Tb5) : Prop := RowsIn w a t.rows ∧ RawAt w (.agg #[.bool n, s]) t.els
theorem TabIs.below {w w' : World} {a s : Value} {n : Bool} {t : Tb5} (h : TabIs w a n s t) (hb : Below w.heap.size w w') : TabIs w' a n s t := ⟨h.1.below hb, h.2.below hb⟩
/-- a row of tables -/
def TabsIn (w : World) (v : Value) (l : List Tb5) : Prop :=
  ∃ p cap, v = .slice p l.length cap ∧ l.length ≤ cap ∧ cap ≤ maxLen ∧ (p = none → cap = 0) ∧
    (0 < l.length → ∃ b off, p = some ⟨b, off, none⟩ ∧ b < w.heap.size ∧ ∀ i (h : i < l.length), ∃ a n s, w.cell? ⟨b, off + i * 3, none⟩ = some a ∧ w.cell? ⟨b, off + i * 3 + 1, none⟩ = some (.bool n) ∧ w.cell? ⟨b, off + i * 3 + 2, none⟩ = some s ∧ TabIs w a n s l[i])
theorem TabsIn.below {w w' : World} {v : Value} {l : List Tb5} (h : TabsIn w v l) (hb : Below w.heap.size w w') : TabsIn w' v l := by
  obtain ⟨p, cap, hv, h1, h2, h3, h4⟩ := h
  refine ⟨p, cap, hv, h1, h2, h3, fun hp => ?_⟩
  obtain ⟨b, off, h5, h6, h7⟩ := h4 hp
  refine ⟨b, off, h5, Nat.lt_of_lt_of_le h6 hb.size, fun i hi => ?_⟩
  obtain ⟨a, n, s, k1, k2, k3, k4⟩ := h7 i hi
  exact ⟨a, n, s, (hb.cell (p := ⟨b, off + i * 3, none⟩) h6).trans k1, (hb.cell (p := ⟨b, off + i * 3 + 1, none⟩) h6).trans k2, (hb.cell (p := ⟨b, off + i * 3 + 2, none⟩) h6).trans k3, k4.below hb⟩
theorem RawAt.shape {w : World} {n : Bool} {s : Value} {z : Int} (h : RawAt w (.agg #[.bool n, s]) z) : ∃ p k c, s = .slice p k c := by
  obtain ⟨neg, s', l, e, ha, -⟩ := h
  injection e with e
  have e2 : s = s' := by
    have := congrArg (fun a => a[1]?) e
    simpa using this
  obtain ⟨p, cap, hv, -⟩ := ha
  exact ⟨p, _, cap, e2.trans hv⟩
end Go.Proofs.YtckkpolikdnilaaGreatDoor
/- whole.Cmp. -/
namespace Go.Proofs.YtckkpolikdnilaaGreatDoor
open Go.RowKit Big

theorem ord_signs {a b : Int} (h : a.sign ≠ b.sign) : ord a.sign b.sign = ord a b := by
  rcases Int.lt_trichotomy a 0 with h1 | h1 | h1 <;> rcases Int.lt_trichotomy b 0 with h2 | h2 | h2
  all_goals (try subst h1); (try subst h2)
  all_goals (try simp only [Int.sign_eq_neg_one_of_neg, Int.sign_eq_one_of_pos, Int.sign_zero, *] at h ⊢)
  all_goals first | exact absurd rfl h | (unfold ord; (repeat' split) <;> omega)
theorem ord_sizes {a b : Int} (h : a.sign = b.sign) : a.sign * ord a.natAbs b.natAbs = ord a b := by
  rcases Int.lt_trichotomy a 0 with h1 | h1 | h1 <;> rcases Int.lt_trichotomy b 0 with h2 | h2 | h2
  all_goals (try subst h1); (try subst h2)
  all_goals (try simp only [Int.sign_eq_neg_one_of_neg, Int.sign_eq_one_of_pos, Int.sign_zero, *] at h ⊢)
  all_goals first | (exfalso; revert h; decide) | (unfold ord; (repeat' split) <;> omega)
theorem sign_bounds (a : Int) : -1 ≤ a.sign ∧ a.sign ≤ 1 := by
  rcases Int.lt_trichotomy a 0 with h | h | h
  · rw [Int.sign_eq_neg_one_of_neg h]; omega
  · subst h; simp
  · rw [Int.sign_eq_one_of_pos h]; omega
theorem ord_bounds (a b : Int) : -1 ≤ ord a b ∧ ord a b ≤ 1 := by unfold ord; (repeat' split) <;> omega
theorem quiet_add {P : Program} {f : FuncId} {args : Array Value} {w : World} {n : Nat} {v : Value}
    (h : Calls P f args (w.drewN n) fun e w' => e = .returned v ∧ ∃ m, w' = (w.drewN n).drewN m) :
    Calls P f args (w.drewN n) fun e w'' => e = .returned v ∧ ∃ m, w'' = w.drewN m :=
  h.mono fun _ _ ⟨he, m, hm⟩ => ⟨he, n + m, by rw [hm, World.drewN_drewN]⟩

set_option maxHeartbeats 1600000 in
theorem Cmp_any (v0 v1 : Value) (a b : Int) (w : World) (h0 : RawAt w v0 a) (h1 : RawAt w v1 b) : Calls Tryz.prog 86 #[v0, v1] w (RNum .i64 (ord a b) w) := by
  have hne := @ord_signs a b
  have heq := @ord_sizes a b
  have ba := sign_bounds a
  have bb := sign_bounds b
  have g0 : ∀ W, RawAt W v0 a → Calls Tryz.prog 57 #[v0] W (fun e w' => e = .returned (.int .i64 a.sign) ∧ Below W.heap.size W w') := fun W h => Sign_any v0 a W h
  have g1 : ∀ W, RawAt W v1 b → Calls Tryz.prog 57 #[v1] W (fun e w' => e = .returned (.int .i64 b.sign) ∧ Below W.heap.size W w') := fun W h => Sign_any v1 b W h
  have Hne := hid hne; have Heq := hid heq; have G0 := hid g0; have G1 := hid g1
  clear hne heq g0 g1
  obtain ⟨r, hr⟩ : ∃ r, r = ord a b := ⟨_, rfl⟩
  obtain ⟨n0, s0, l0, rfl, a0, b0, c0, ha⟩ := id h0
  obtain ⟨n1, s1, l1, rfl, a1, b1, c1, hb⟩ := id h1
  have na : a.natAbs = val W l0 := by rw [ha, sg_natAbs]
  have nb : b.natAbs = val W l1 := by rw [hb, sg_natAbs]
  rw [← hr] at Hne Heq ⊢
  rw [na, nb] at Heq
  clear hr ha hb na nb
  generalize a.sign = x at *
  generalize b.sign = y at *
  have d0 := hid (strip_dig W2 b0)
  have d1 := hid (strip_dig W2 b1)
  obtain ⟨ba1, ba2⟩ := ba
  obtain ⟨bb1, bb2⟩ := bb
  go_enter Tryz.func86, Tryz.ntmps86
  go_wp2_with fail
  refine (G0.out _ (h0.below ((below1 _ _).alloc (by simp) _))).mono ?_
  rintro e w1 ⟨rfl, hb1⟩
  have W1 := (Two.new w _ _ _ _ _).below hb1
  obtain ⟨c00, c01, c10, c11, z1⟩ := id W1
  have bw : Below w.heap.size w w1 := ((below1 _ _).alloc (by simp) _).trans (hb1.mono (B' := w.heap.size) (by simp; omega))
  go_wp2_with fail
  refine (G1.out _ (h1.below bw)).mono ?_
  rintro e w2 ⟨rfl, hb2⟩
  obtain ⟨e00, e01, e10, e11, z2⟩ := W1.below hb2
  have bw2 : Below w.heap.size w w2 := bw.trans (hb2.mono (B' := w.heap.size) (by omega))
  clear c00 c01 c10 c11 hb1 bw hb2 z1 z2 G0 G1 W1
  have t0 : ∀ n, Calls Tryz.prog 88 #[s0] (w2.drewN n) (fun e w' => e = .returned (cutTo s0 (strip l0).length) ∧ w' = w2.drewN n) := fun n => trim_val s0 l0 _ ((a0.below bw2).drewN n)
  have t1 : ∀ n, Calls Tryz.prog 88 #[s1] (w2.drewN n) (fun e w' => e = .returned (cutTo s1 (strip l1).length) ∧ w' = w2.drewN n) := fun n => trim_val s1 l1 _ ((a1.below bw2).drewN n)
  have t2 : ∀ n, Calls Tryz.prog 109 #[cutTo s0 (strip l0).length, cutTo s1 (strip l1).length] (w2.drewN n) (ROrd (ord (val W l0) (val W l1)) (w2.drewN n)) := fun n =>
    compare_any _ _ _ _ _ (by have := ((a0.below bw2).drewN n).strip; rwa [d0.out] at this ⊢) (by have := ((a1.below bw2).drewN n).strip; rwa [d1.out] at this ⊢)
  have ob := ord_bounds (val W l0) (val W l1)
  have T0 := hid t0; have T1 := hid t1; have T2 := hid t2
  clear t0 t1 t2
  obtain ⟨o, ho⟩ : ∃ o, o = ord (val W l0) (val W l1) := ⟨_, rfl⟩
  rw [← ho] at Heq T2 ob
  clear ho
  obtain ⟨ob1, ob2⟩ := ob
  by_cases hxy : x = y
  · subst hxy
    have Hr : Hid (x * o = r) := Heq.out rfl
    clear Hne Heq
    rcases (by omega : x = -1 ∨ x = 0 ∨ x = 1) with rfl | rfl | rfl
    all_goals
      go_wp2_with fail
      go_quiet ((first
        | (go_at_call_of 88 (s0); exact Calls.quiet_of_same (T0.out _))
        | (go_at_call_of 88 (s1); exact Calls.quiet_of_same (T1.out _))
        | (go_at_call 109; exact quiet_add (T2.out _))))
      go_wp2
      go_ret
      exact ⟨by rw [← Hr.out]; simp, below_drewN bw2 _⟩
  · have hb : (x != y) = true := bne_iff_ne.2 hxy
    have Hr : Hid (ord x y = r) := Hne.out hxy
    go_wp2_with (go_at_call 108; refine (cmpInt_any _ _ _).mono ?_; rintro e w' ⟨rfl, rfl⟩)
    go_ret
    exact ⟨by rw [← Hr.out]; rfl, bw2⟩
end Go.Proofs.YtckkpolikdnilaaGreatDoor
/- whole.Add, Sub. -/
namespace Go.Proofs.YtckkpolikdnilaaGreatDoor
open Go.RowKit Big

theorem sg_add_same (n : Bool) (x y : Nat) : sg n (x + y) = sg n x + sg n y := by unfold sg; cases n <;> simp <;> omega
theorem sg_add_lt {n m : Bool} {x y : Nat} (h : n ≠ m) (hxy : x < y) : sg m (y - x) = sg n x + sg m y := by unfold sg; cases n <;> cases m <;> simp at h ⊢ <;> omega
theorem sg_add_ge {n m : Bool} {x y : Nat} (h : n ≠ m) (hxy : ¬ x < y) : sg n (x - y) = sg n x + sg m y := by unfold sg; cases n <;> cases m <;> simp at h ⊢ <;> omega

set_option maxHeartbeats 1600000 in
theorem Add_any (v0 v1 : Value) (a b : Int) (w : World) (h0 : RawAt w v0 a) (h1 : RawAt w v1 b) : Calls Tryz.prog 105 #[v0, v1] w (RInt (a + b) w) := by
  obtain ⟨n0, s0, l0, rfl, a0, b0, c0, rfl⟩ := h0
  obtain ⟨n1, s1, l1, rfl, a1, b1, c1, rfl⟩ := h1
  have t0 : ∀ W : World, At W .u64 s0 l0 → Calls Tryz.prog 88 #[s0] W (fun e w' => e = .returned (cutTo s0 (strip l0).length) ∧ w' = W) := fun W h => trim_val s0 l0 W h
  have t1 : ∀ W : World, At W .u64 s1 l1 → Calls Tryz.prog 88 #[s1] W (fun e w' => e = .returned (cutTo s1 (strip l1).length) ∧ w' = W) := fun W h => trim_val s1 l1 W h
  have T0 := hid t0; have T1 := hid t1; clear t0 t1
  have d0 := hid (strip_dig W2 b0)
  have d1 := hid (strip_dig W2 b1)
  have m0 : sz W (val W l0) ≤ 1099511627776 := Nat.le_trans (sz_val W2 b0) c0
  have m1 : sz W (val W l1) ≤ 1099511627776 := Nat.le_trans (sz_val W2 b1) c1
  obtain ⟨r, hr⟩ : ∃ r, r = sg n0 (val W l0) + sg n1 (val W l1) := ⟨_, rfl⟩
  rw [← hr]
  have Hr := hid hr; clear hr
  go_enter Tryz.func105, Tryz.ntmps105
  go_wp2_with fail
  go_quiet ((first
    | (go_at_call_of 88 (s0); exact Calls.quiet_of_same (T0.out _ (by repeat (first | exact a0 | apply At.drewN | apply At.drew | apply At.alloc))))
    | (go_at_call_of 88 (s1); exact Calls.quiet_of_same (T1.out _ (by repeat (first | exact a1 | apply At.drewN | apply At.drew | apply At.alloc))))))
  generalize hW : World.drewN (World.alloc (World.alloc (World.alloc w _) _) _) _ = W3
  have bw : Below w.heap.size w W3 := by rw [← hW]; exact below_drewN (((below1 _ _).alloc (by simp) _).alloc (by simp; omega) _) _
  have hp : Pair W3 (w.heap.size + 1 + 1) 44 := by rw [← hW]; exact Pair.new2 ..
  obtain ⟨c00, c01, c10, c11, -⟩ : Two W3 w.heap.size (.bool n0) s0 (.bool n1) s1 := by rw [← hW]; exact (Two.new w _ _ _ _ _).below (below_drewN (below1 _ _) _)
  have z3 : w.heap.size + 3 ≤ W3.heap.size := by rw [← hW]; simp
  have A0 : At W3 .u64 (cutTo s0 (strip l0).length) (dig W (val W l0)) := by have := (a0.below bw).strip; rwa [d0.out] at this ⊢
  have A1 : At W3 .u64 (cutTo s1 (strip l1).length) (dig W (val W l1)) := by have := (a1.below bw).strip; rwa [d1.out] at this ⊢
  have bw' := hid bw
  clear hW bw c01 c11 T0 T1 a0 a1
  generalize cutTo s0 (strip l0).length = u0 at *
  generalize cutTo s1 (strip l1).length = u1 at *
  generalize val W l0 = x at *
  generalize val W l1 = y at *
  clear d0 d1 b0 b1 c0 c1
  by_cases hn : n0 = n1
  · subst hn
    have Hs : Hid (sg n0 (x + y) = r) := by unfold Hid; rw [sg_add_same, Hr.out]
    go_wp2
    go_region_held3 (fun w' => w'.cell? ⟨w.heap.size, 0, none⟩ = some (.bool n0) ∧ Pair w' (w.heap.size + 1 + 1) 44)
      (first | (go_split_ands; (try dsimp only); (repeat' apply And.intro) <;> first | assumption | exact Pair.drew ‹_› | exact Pair.below ‹_› hb9 | exact Pair.below ‹_› hb8 | exact Pair.below ‹_› hb7 | exact Pair.below ‹_› hb6 | exact Pair.below ‹_› hb5 | exact Pair.below ‹_› hb4 | exact Pair.below ‹_› hb3 | exact Pair.below ‹_› hb2 | exact Pair.below ‹_› hb1 | exact (hb9.cell (by first | omega | (simp; omega) | (simp; done))).trans ‹_› | exact (hb8.cell (by first | omega | (simp; omega) | (simp; done))).trans ‹_› | exact (hb7.cell (by first | omega | (simp; omega) | (simp; done))).trans ‹_› | exact (hb6.cell (by first | omega | (simp; omega) | (simp; done))).trans ‹_› | exact (hb5.cell (by first | omega | (simp; omega) | (simp; done))).trans ‹_› | exact (hb4.cell (by first | omega | (simp; omega) | (simp; done))).trans ‹_› | exact (hb3.cell (by first | omega | (simp; omega) | (simp; done))).trans ‹_› | exact (hb2.cell (by first | omega | (simp; omega) | (simp; done))).trans ‹_› | exact (hb1.cell (by first | omega | (simp; omega) | (simp; done))).trans ‹_› | exact Pair.set1 (Pair.set0 ‹_› _) _ _ _ | exact (cell_stored _ (by first | (dsimp only; omega) | (simp; done) | (simp; omega)) _ _).trans ‹_› | exact Pair.drew (Pair.below ‹_› (below1 _ _)) | exact Pair.below ‹_› (below1 _ _) | exact Pair.far ‹_› (by omega) hb1 | exact Pair.new .. | exact Pair.new1 .. | exact Pair.new2 .. | (go_keep; done)) | (go_keep; done))
      (first
        | (go_at_call 118; refine (plus_any u0 u1 x y _ (by exact A0) (by exact A1) m0 m1).mono ?_; rintro e w1 ⟨v1, rfl, ho1, hb1⟩; have hz1 : w.heap.size + 3 ≤ w1.heap.size := (by have := hb1.size; simp at this; omega))
        | (go_at_call 58; refine (told_any n0 _ _ _ ho1.at).mono ?_; rintro e w2 ⟨v2, rfl, hi2, hb2⟩; obtain ⟨p2, n2, c2, rfl, hi2⟩ := hi2.shape; have hpr := Pair.below (by go_split_ands; assumption) hb2; obtain ⟨_, _, q0, q1, q2, q3⟩ := hpr.cells))
    go_wp2
    exact bodyPost_ret (v := .agg #[.bool (decide (sg n0 (x + y) < 0)), .slice p2 n2 c2]) (by simp [results, Tryz.results105, go_sem, q0, q1]) rfl
      ⟨_, rfl, by rw [← Hs.out]; exact hi2.stored hpr _ _ _ _, Below.stored ((bw'.out.drew.trans (hb1.mono (B' := w.heap.size) (by simp; omega))).trans (hb2.mono (B' := w.heap.size) (by omega))) (by omega) _ _⟩
  · have hb : (n0 == n1) = false := beq_eq_false_iff_ne.2 hn
    by_cases hxy : x < y
    · have Hs : Hid (sg n1 (y - x) = r) := by unfold Hid; rw [sg_add_lt hn hxy, Hr.out]
      have ho : ord (x : Int) y = -1 := ord_lt (by omega)
      have Hc := hid (compare_any u0 u1 x y W3 A0 A1)
      rw [ho] at Hc
      clear ho
      go_wp2_with (go_at_call 109; refine Hc.out.mono ?_; rintro e w' ⟨rfl, k, rfl⟩)
      go_region_held3 (fun w' => w'.cell? ⟨w.heap.size + 1, 0, none⟩ = some (.bool n1) ∧ Pair w' (w.heap.size + 1 + 1) 44)
        (first | (go_split_ands; (try dsimp only); (repeat' apply And.intro) <;> first | assumption | exact Pair.drew ‹_› | exact Pair.below ‹_› hb9 | exact Pair.below ‹_› hb8 | exact Pair.below ‹_› hb7 | exact Pair.below ‹_› hb6 | exact Pair.below ‹_› hb5 | exact Pair.below ‹_› hb4 | exact Pair.below ‹_› hb3 | exact Pair.below ‹_› hb2 | exact Pair.below ‹_› hb1 | exact (hb9.cell (by first | omega | (simp; omega) | (simp; done))).trans ‹_› | exact (hb8.cell (by first | omega | (simp; omega) | (simp; done))).trans ‹_› | exact (hb7.cell (by first | omega | (simp; omega) | (simp; done))).trans ‹_› | exact (hb6.cell (by first | omega | (simp; omega) | (simp; done))).trans ‹_› | exact (hb5.cell (by first | omega | (simp; omega) | (simp; done))).trans ‹_› | exact (hb4.cell (by first | omega | (simp; omega) | (simp; done))).trans ‹_› | exact (hb3.cell (by first | omega | (simp; omega) | (simp; done))).trans ‹_› | exact (hb2.cell (by first | omega | (simp; omega) | (simp; done))).trans ‹_› | exact (hb1.cell (by first | omega | (simp; omega) | (simp; done))).trans ‹_› | exact Pair.set1 (Pair.set0 ‹_› _) _ _ _ | exact (cell_stored _ (by first | (dsimp only; omega) | (simp; done) | (simp; omega)) _ _).trans ‹_› | exact Pair.drew (Pair.below ‹_› (below1 _ _)) | exact Pair.below ‹_› (below1 _ _) | exact Pair.far ‹_› (by omega) hb1 | exact Pair.new .. | exact Pair.new1 .. | exact Pair.new2 .. | (go_keep; done)) | (go_keep; done))
        (first
          | (go_at_call 119; refine (minus_any u1 u0 y x _ (by exact A1) (by exact A0) (by omega) m1).mono ?_; rintro e w1 ⟨v1, rfl, ho1, hb1⟩; have hz1 : w.heap.size + 3 ≤ w1.heap.size := (by have := hb1.size; simp at this; omega))
          | (go_at_call 58; refine (told_any n1 _ _ _ ho1).mono ?_; rintro e w2 ⟨v2, rfl, hi2, hb2⟩; obtain ⟨p2, n2, c2, rfl, hi2⟩ := hi2.shape; have hpr := Pair.below (by go_split_ands; assumption) hb2; obtain ⟨_, _, q0, q1, q2, q3⟩ := hpr.cells))
      go_wp2
      exact bodyPost_ret (v := .agg #[.bool (decide (sg n1 (y - x) < 0)), .slice p2 n2 c2]) (by simp [results, Tryz.results105, go_sem, q0, q1]) rfl
        ⟨_, rfl, by rw [← Hs.out]; exact hi2.stored hpr _ _ _ _, Below.stored (((below_drewN bw'.out k).drew.trans (hb1.mono (B' := w.heap.size) (by simp; omega))).trans (hb2.mono (B' := w.heap.size) (by omega))) (by omega) _ _⟩
    · have Hs : Hid (sg n0 (x - y) = r) := by unfold Hid; rw [sg_add_ge hn hxy, Hr.out]
      have ho : ∃ o, o = ord (x : Int) y ∧ ¬ o < 0 := ⟨_, rfl, by unfold ord; (repeat' split) <;> omega⟩
      obtain ⟨o, ho, hneg⟩ := ho
      have Hc := hid (compare_any u0 u1 x y W3 A0 A1)
      rw [← ho] at Hc
      clear ho
      go_wp2_with (go_at_call 109; refine Hc.out.mono ?_; rintro e w' ⟨rfl, k, rfl⟩)
      go_region_held3 (fun w' => w'.cell? ⟨w.heap.size, 0, none⟩ = some (.bool n0) ∧ Pair w' (w.heap.size + 1 + 1) 44)
        (first | (go_split_ands; (try dsimp only); (repeat' apply And.intro) <;> first | assumption | exact Pair.drew ‹_› | exact Pair.below ‹_› hb9 | exact Pair.below ‹_› hb8 | exact Pair.below ‹_› hb7 | exact Pair.below ‹_› hb6 | exact Pair.below ‹_› hb5 | exact Pair.below ‹_› hb4 | exact Pair.below ‹_› hb3 | exact Pair.below ‹_› hb2 | exact Pair.below ‹_› hb1 | exact (hb9.cell (by first | omega | (simp; omega) | (simp; done))).trans ‹_› | exact (hb8.cell (by first | omega | (simp; omega) | (simp; done))).trans ‹_› | exact (hb7.cell (by first | omega | (simp; omega) | (simp; done))).trans ‹_› | exact (hb6.cell (by first | omega | (simp; omega) | (simp; done))).trans ‹_› | exact (hb5.cell (by first | omega | (simp; omega) | (simp; done))).trans ‹_› | exact (hb4.cell (by first | omega | (simp; omega) | (simp; done))).trans ‹_› | exact (hb3.cell (by first | omega | (simp; omega) | (simp; done))).trans ‹_› | exact (hb2.cell (by first | omega | (simp; omega) | (simp; done))).trans ‹_› | exact (hb1.cell (by first | omega | (simp; omega) | (simp; done))).trans ‹_› | exact Pair.set1 (Pair.set0 ‹_› _) _ _ _ | exact (cell_stored _ (by first | (dsimp only; omega) | (simp; done) | (simp; omega)) _ _).trans ‹_› | exact Pair.drew (Pair.below ‹_› (below1 _ _)) | exact Pair.below ‹_› (below1 _ _) | exact Pair.far ‹_› (by omega) hb1 | exact Pair.new .. | exact Pair.new1 .. | exact Pair.new2 .. | (go_keep; done)) | (go_keep; done))
        (first
          | (go_at_call 119; refine (minus_any u0 u1 x y _ (by exact A0) (by exact A1) (by omega) m0).mono ?_; rintro e w1 ⟨v1, rfl, ho1, hb1⟩; have hz1 : w.heap.size + 3 ≤ w1.heap.size := (by have := hb1.size; simp at this; omega))
          | (go_at_call 58; refine (told_any n0 _ _ _ ho1).mono ?_; rintro e w2 ⟨v2, rfl, hi2, hb2⟩; obtain ⟨p2, n2, c2, rfl, hi2⟩ := hi2.shape; have hpr := Pair.below (by go_split_ands; assumption) hb2; obtain ⟨_, _, q0, q1, q2, q3⟩ := hpr.cells))
      go_wp2
      exact bodyPost_ret (v := .agg #[.bool (decide (sg n0 (x - y) < 0)), .slice p2 n2 c2]) (by simp [results, Tryz.results105, go_sem, q0, q1]) rfl
        ⟨_, rfl, by rw [← Hs.out]; exact hi2.stored hpr _ _ _ _, Below.stored (((below_drewN bw'.out k).drew.trans (hb1.mono (B' := w.heap.size) (by simp; omega))).trans (hb2.mono (B' := w.heap.size) (by omega))) (by omega) _ _⟩
end Go.Proofs.YtckkpolikdnilaaGreatDoor
/- whole.Sub, Of. -/
namespace Go.Proofs.YtckkpolikdnilaaGreatDoor
open Go.RowKit Big

theorem wrap_neg_neg (n : Nat) (h0 : 0 < n) (h : n < W) : IntKind.u64.wrap (-IntKind.u64.wrap (-(n : Int))) = (n : Int) := by
  unfold W at h
  simp only [IntKind.wrap, IntKind.bits, IntKind.signed]
  simp
  omega

set_option maxHeartbeats 800000 in
theorem Of_any (z : Int) (w : World) (h0 : -9223372036854775808 ≤ z) (h1 : z ≤ 9223372036854775807) : Calls Tryz.prog 56 #[.int .i64 z] w (RInt z w) := by
  by_cases hz : z < 0
  · obtain ⟨n, hn⟩ : ∃ n : Nat, z = -(n : Int) := ⟨z.natAbs, by omega⟩
    have Hn := hid hn
    have hnW : n < W := by unfold W; omega
    have Hz : Hid (sg true n = z) := by rw [hn]; rfl
    have hn0 : 0 < n := by omega
    clear hn
    subst_vars
    go_enter Tryz.func56, Tryz.ntmps56
    go_wp2_with fail
    rw [wrap_neg_neg n hn0 hnW]
    refine (ownWord_any n _ hnW).mono ?_
    rintro e w1 ⟨v1, rfl, ho1, hb1⟩
    go_wp2_with fail
    refine (told_any true v1 n _ ho1).mono ?_
    rintro e w2 ⟨v2, rfl, hi2, hb2⟩
    obtain ⟨p2, n2, c2, rfl, hi2⟩ := hi2.shape
    have hpr : Pair w2 w.heap.size 44 := Pair.below (Pair.below (Pair.new ..) hb1) hb2
    obtain ⟨_, _, q0, q1, q2, q3⟩ := hpr.cells
    have z1 : w.heap.size + 1 ≤ w1.heap.size := by have := hb1.size; simp at this; omega
    have bw : Below w.heap.size w w2 := ((below1 _ _).trans (hb1.mono (B' := w.heap.size) (by simp))).trans (hb2.mono (B' := w.heap.size) (by omega))
    have Hi := hid hi2
    clear hb1 hb2 hi2
    go_wp2
    exact bodyPost_ret (v := .agg #[.bool (decide (sg true n < 0)), .slice p2 n2 c2]) (by simp [results, Tryz.results56, go_sem, q0, q1]) rfl
      ⟨_, rfl, by rw [← Hz.out]; exact Hi.out.stored hpr _ _ _ _, Below.stored bw (by omega) _ _⟩
  · obtain ⟨n, hn⟩ : ∃ n : Nat, z = (n : Int) := ⟨z.natAbs, by omega⟩
    subst hn
    have hnW : n < W := by unfold W; omega
    go_enter Tryz.func56, Tryz.ntmps56
    go_wp2_with fail
    refine (ownWord_any n _ hnW).mono ?_
    rintro e w1 ⟨v1, rfl, ho1, hb1⟩
    go_wp2_with fail
    refine (told_any false v1 n _ ho1).mono ?_
    rintro e w2 ⟨v2, rfl, hi2, hb2⟩
    obtain ⟨p2, n2, c2, rfl, hi2⟩ := hi2.shape
    have hpr : Pair w2 w.heap.size 44 := Pair.below (Pair.below (Pair.new ..) hb1) hb2
    obtain ⟨_, _, q0, q1, q2, q3⟩ := hpr.cells
    have z1 : w.heap.size + 1 ≤ w1.heap.size := by have := hb1.size; simp at this; omega
    have bw : Below w.heap.size w w2 := ((below1 _ _).trans (hb1.mono (B' := w.heap.size) (by simp))).trans (hb2.mono (B' := w.heap.size) (by omega))
    have Hi := hid hi2
    clear hb1 hb2 hi2
    go_wp2
    exact bodyPost_ret (v := .agg #[.bool (decide (sg false n < 0)), .slice p2 n2 c2]) (by simp [results, Tryz.results56, go_sem, q0, q1]) rfl
      ⟨_, rfl, Hi.out.stored hpr _ _ _ _, Below.stored bw (by omega) _ _⟩
end Go.Proofs.YtckkpolikdnilaaGreatDoor
/- value.truth, isTrue, isFalse, same; slices' functions as value uses them. -/
namespace Go.Proofs.YtckkpolikdnilaaGreatDoor
open Go.RowKit Big Go.WideMaps

theorem RawAt.agg {w : World} {v : Value} {z : Int} (h : RawAt w v z) : ∃ n p k c, v = .agg #[.bool n, .slice p k c] := by
  obtain ⟨neg, s, l, rfl, ⟨p, cap, rfl, -⟩, -⟩ := h
  exact ⟨neg, p, _, cap, rfl⟩
theorem pair_cells {w : World} {g : Nat} {a b : Value} {t : TypeId} (h : w.heap[g]? = some (.cells #[a, b] t (0, 0))) : w.cell? ⟨g, 0, none⟩ = some a ∧ w.cell? ⟨g, 1, none⟩ = some b := by
  simp [World.cell?, h]
set_option maxRecDepth 100000 in
set_option maxHeartbeats 1600000 in
theorem truth_any (b : Bool) (w : World) : Calls Tryz.prog 35 #[.bool b] w (RInt (vlTruth b) w) := by
  have HP : Hid (Pair (w.alloc (.cells #[.bool false, .slice none 0 0] 44)) w.heap.size 44) := hid (Pair.new w false none 0 0 44)
  have H1 := hid (Of_any 1 (w.alloc (.cells #[.bool false, .slice none 0 0] 44)) (by decide) (by decide))
  have H0 := hid (Of_any 0 (w.alloc (.cells #[.bool false, .slice none 0 0] 44)) (by decide) (by decide))
  have b0 := hid (below1 w (.cells #[.bool false, .slice none 0 0] 44))
  cases b
  case false =>
    show Calls _ _ _ _ (RInt 0 w)
    go_enter Tryz.func35, Tryz.ntmps35
    go_wp2_with fail
    refine H0.out.mono ?_
    rintro e w1 ⟨v, rfl, hi, hb⟩
    obtain ⟨p, n, c, rfl, hi⟩ := hi.shape
    have hpr := hid (HP.out.below hb)
    have hq := hpr.out.cells
    obtain ⟨_, _, q0, q1, q2, q3⟩ := hq
    have Hi := hid hi; have Hb := hid (bel_go hb b0.out)
    clear hi hb
    go_wp2
    exact bodyPost_ret (v := .agg #[.bool (decide ((0 : Int) < 0)), .slice p n c]) (by simp [results, Tryz.results35, go_sem, q0, q1]) rfl ⟨_, rfl, Hi.out.stored hpr.out _ _ _ _, Below.stored Hb.out (Nat.le_refl _) _ _⟩
  case true =>
    show Calls _ _ _ _ (RInt 1 w)
    go_enter Tryz.func35, Tryz.ntmps35
    go_wp2_with fail
    refine H1.out.mono ?_
    rintro e w1 ⟨v, rfl, hi, hb⟩
    obtain ⟨p, n, c, rfl, hi⟩ := hi.shape
    have hpr := hid (HP.out.below hb)
    have hq := hpr.out.cells
    obtain ⟨_, _, q0, q1, q2, q3⟩ := hq
    have Hi := hid hi; have Hb := hid (bel_go hb b0.out)
    clear hi hb
    go_wp2
    exact bodyPost_ret (v := .agg #[.bool (decide ((1 : Int) < 0)), .slice p n c]) (by simp [results, Tryz.results35, go_sem, q0, q1]) rfl ⟨_, rfl, Hi.out.stored hpr.out _ _ _ _, Below.stored Hb.out (Nat.le_refl _) _ _⟩
theorem sign_zero (z : Int) : (z.sign == 0) = (z == 0) := by
  rw [Bool.eq_iff_iff]; simp [Int.sign_eq_zero_iff_zero]
set_option maxRecDepth 100000 in
set_option maxHeartbeats 1600000 in
theorem isTrue_any (v : Value) (z : Int) (w : World) (h : RawAt w v z) : Calls Tryz.prog 36 #[v] w (RBool (z != 0) w) := by
  obtain ⟨n, p, k, c, rfl⟩ := h.agg
  have b0 := below1 w (.cells #[.bool n, .slice p k c] 44)
  have H := hid (Sign_any _ z _ (h.below b0))
  have hs : Hid ((z.sign != 0) = (z != 0)) := hid (by unfold bne; rw [sign_zero])
  have b0 := hid b0
  generalize z.sign = s at *
  generalize hr : (z != 0) = r at *
  clear hr h
  go_enter Tryz.func36, Tryz.ntmps36
  go_wp2_with fail
  refine H.out.mono ?_
  rintro e w1 ⟨rfl, b1⟩
  have b1 := hid (bel_go b1 b0.out)
  clear H
  go_wp2
  go_ret
  exact ⟨by rw [← hs.out]; rfl, b1.out⟩
set_option maxRecDepth 100000 in
set_option maxHeartbeats 1600000 in
theorem isFalse_any (v : Value) (z : Int) (w : World) (h : RawAt w v z) : Calls Tryz.prog 104 #[v] w (RBool (z == 0) w) := by
  obtain ⟨n, p, k, c, rfl⟩ := h.agg
  have b0 := below1 w (.cells #[.bool n, .slice p k c] 44)
  have H := hid (Sign_any _ z _ (h.below b0))
  have hs : Hid ((z.sign == 0) = (z == 0)) := hid (sign_zero z)
  have b0 := hid b0
  generalize z.sign = s at *
  generalize hr : (z == 0) = r at *
  clear hr h
  go_enter Tryz.func104, Tryz.ntmps104
  go_wp2_with fail
  refine H.out.mono ?_
  rintro e w1 ⟨rfl, b1⟩
  have b1 := hid (bel_go b1 b0.out)
  clear H
  go_wp2
  go_ret
  exact ⟨by rw [← hs.out]; rfl, b1.out⟩
theorem ord_zero (a b : Int) : (ord a b == 0) = decide (a = b) := by
  unfold ord
  rw [Bool.eq_iff_iff]
  simp
  split
  · simp; omega
  · split
    · simp; omega
    · simp; omega
set_option maxRecDepth 100000 in
set_option maxHeartbeats 1600000 in
theorem same_any5 (v0 v1 : Value) (a b : Int) (w : World) (h0 : RawAt w v0 a) (h1 : RawAt w v1 b) : Calls Tryz.prog 55 #[v0, v1] w (RBool (decide (a = b)) w) := by
  obtain ⟨n0, p0, k0, c0, rfl⟩ := h0.agg
  obtain ⟨n1, p1, k1, c1, rfl⟩ := h1.agg
  have b0 := below1 w (.cells #[.bool n0, .slice p0 k0 c0] 44)
  have b1 := bel_go (below1 (w.alloc (.cells #[.bool n0, .slice p0 k0 c0] 44)) (.cells #[.bool n1, .slice p1 k1 c1] 44)) b0
  have H := hid (Cmp_any _ _ a b _ (h0.below b1) (h1.below b1))
  have ho : Hid ((ord a b == 0) = decide (a = b)) := hid (ord_zero a b)
  have b1 := hid b1
  generalize ord a b = s at *
  generalize hr : decide (a = b) = r at *
  clear hr h0 h1 b0
  go_enter Tryz.func55, Tryz.ntmps55
  go_wp2_with fail
  refine H.out.mono ?_
  rintro e w1 ⟨rfl, b2⟩
  have b2 := hid (bel_go b2 b1.out)
  clear H
  go_wp2
  go_ret
  exact ⟨by rw [← ho.out]; rfl, b2.out⟩
end Go.Proofs.YtckkpolikdnilaaGreatDoor
/- slices.EqualFunc over numbers, numbers.standIn, slices.IndexFunc over rows; ContainsFunc of numbers. -/
namespace Go.Proofs.YtckkpolikdnilaaGreatDoor
open Go.RowKit Big Go.WideMaps

set_option maxRecDepth 100000 in
set_option maxHeartbeats 3200000 in
theorem equalFunc_any (v0 v1 : Value) (a b : List Int) (w : World) (h0 : NumsIn w v0 a) (h1 : NumsIn w v1 b) :
    Calls Tryz.prog 54 #[v0, v1, .func (.func 55) #[] #[]] w (RBool (decide (a = b)) w) := by
  have H0 := hid h0; have H1 := hid h1
  obtain ⟨p0, c0, rfl, i0, i1, i2, i3⟩ := h0
  obtain ⟨p1, c1, rfl, j0, j1, j2, j3⟩ := h1
  unfold maxLen at i1 j1
  obtain ⟨la, hla⟩ : ∃ la, la = a.length := ⟨_, rfl⟩
  obtain ⟨lb, hlb⟩ : ∃ lb, lb = b.length := ⟨_, rfl⟩
  have Hla := hid hla; have Hlb := hid hlb
  have I3 := hid i3; have J3 := hid j3
  rw [← hla] at i0 ⊢
  rw [← hlb] at j0 ⊢
  clear i3 j3 i2 j2 H0 H1
  by_cases hl : la = lb
  case neg =>
    have t1 : ((la : Int) != (lb : Int)) = true := by simp; omega
    have hne : Hid (decide (a = b) = false) := hid (decide_eq_false (fun e => hl (by rw [hla, hlb, e])))
    rw [hne.out]
    clear hl hla hlb
    go_enter Tryz.func54, Tryz.ntmps54
    go_wp2
    go_ret
    exact ⟨rfl, Below.refl _ _⟩
  case pos =>
  subst hl
  clear hla hlb
  go_enter Tryz.func54, Tryz.ntmps54
  go_wp2_with fail
  go_loopw [17] (fun i wr => ∃ k : Nat, k ≤ la ∧ i = .int .i64 (k : Nat) ∧ Hid (∀ j (hj : j < k) (h1 : j < a.length) (h2 : j < b.length), a[j] = b[j]) ∧ Hid (Below w.heap.size w wr)) (fun i _ => la - (intOf i).toNat)
  case atStart => exact ⟨0, Nat.zero_le _, rfl, hid (fun j hj => by omega), hid (Below.refl _ _)⟩
  case round =>
    obtain ⟨k, hk, rfl, hE, hB⟩ := hrel
    by_cases hlt : k < la
    · have hka : k < a.length := by rw [← Hla.out]; exact hlt
      have hkb : k < b.length := by rw [← Hlb.out]; exact hlt
      obtain ⟨ba, oa, rfl, hba, hca⟩ := I3.out (by omega)
      obtain ⟨bb, ob, rfl, hbb, hcb⟩ := J3.out (by omega)
      obtain ⟨n0, s0, k0, k1, r0⟩ := hca k hka
      obtain ⟨n1, s1, k2, k3, r1⟩ := hcb k hkb
      obtain ⟨q0, d0, g0, rfl⟩ := r0.shape
      obtain ⟨q1, d1, g1, rfl⟩ := r1.shape
      have m0 := (hB.out.cell (p := ⟨ba, oa + k * 2, none⟩) hba).trans k0
      have m1 := (hB.out.cell (p := ⟨ba, oa + k * 2 + 1, none⟩) hba).trans k1
      have b1 := below1 wr (.cells #[.bool n0, .slice q0 d0 g0] 44)
      have m2 := ((bel_go b1 hB.out).cell (p := ⟨bb, ob + k * 2, none⟩) hbb).trans k2
      have m3 := ((bel_go b1 hB.out).cell (p := ⟨bb, ob + k * 2 + 1, none⟩) hbb).trans k3
      have b2 := bel_go (below1 (wr.alloc (.cells #[.bool n0, .slice q0 d0 g0] 44)) (.cells #[.bool n1, .slice q1 d1 g1] 44)) b1
      have hB2 := bel_go b2 hB.out
      have Hs := hid (same_any5 _ _ _ _ _ (r0.below hB2) (r1.below hB2))
      have hB2 := hid hB2
      have hEk := hid (fun (e : a[k] = b[k]) j (hj : j < k + 1) (h1 : j < a.length) (h2 : j < b.length) => (by
        by_cases ejk : j = k
        · subst ejk; exact e
        · exact hE.out j (by omega) h1 h2 : a[j] = b[j]))
      have hNe := hid (fun (e : a[k] ≠ b[k]) => (fun eab => e (by subst eab; rfl) : a ≠ b))
      generalize hr : decide (a[k] = b[k]) = r at Hs
      have Hr := hid hr
      clear k0 k1 k2 k3 r0 r1 hca hcb b1 b2 hr hba hbb
      go_wp2_with fail
      refine Hs.out.mono ?_
      rintro e w3 ⟨rfl, b3⟩
      have hB3 := hid (bel_go b3 hB2.out)
      clear Hs b3
      cases r
      · have hfin : Hid (decide (a = b) = false) := hid (decide_eq_false (hNe.out (of_decide_eq_false Hr.out)))
        go_wp2_with fail
        go_ret
        exact ⟨by rw [hfin.out]; rfl, hB3.out⟩
      · go_wp2_with fail
        go_roundw
        case rel => exact ⟨k + 1, by omega, by go_num, hid (hEk.out (of_decide_eq_true Hr.out)), hB3⟩
        case measure => simp [intOf]; omega
    · obtain rfl : k = la := by omega
      have hfin : Hid (decide (a = b) = true) := hid (decide_eq_true (List.ext_getElem (by rw [← Hla.out, ← Hlb.out]) (fun j h1 h2 => hE.out j (by rw [Hla.out]; exact h1) h1 h2)))
      go_wp2_with fail
      go_ret
      exact ⟨by rw [hfin.out]; rfl, hB.out⟩
set_option maxRecDepth 100000 in
set_option maxHeartbeats 3200000 in
theorem standIn_any (va a s : Value) (n : Bool) (args : List Int) (x : List Int × Int) (w : World) (h0 : NumsIn w va args) (h1 : RowIs w a n s x) :
    Calls Tryz.prog 34 #[va, .agg #[a, .bool n, s]] w (RBool (decide (args = x.1)) w) := by
  have h1' := h1
  obtain ⟨⟨pa, ca, rfl, -⟩, hr⟩ := h1'
  obtain ⟨q0, d0, g0, rfl⟩ := hr.shape
  have b0 := below1 w (.cells #[.slice pa x.1.length ca, .bool n, .slice q0 d0 g0] 63)
  have H := hid (equalFunc_any va _ args x.1 _ (h0.below b0) (h1.1.below b0))
  have b0 := hid b0
  generalize decide (args = x.1) = r at *
  obtain ⟨p1, c1, rfl, -⟩ := h0
  generalize x.1.length = L1 at *
  generalize args.length = L2 at *
  clear h1 hr
  go_enter Tryz.func34, Tryz.ntmps34
  go_wp2_with fail
  refine H.out.mono ?_
  rintro e w1 ⟨rfl, b1⟩
  have b1 := hid (bel_go b1 b0.out)
  clear H
  go_wp2
  go_ret
  exact ⟨rfl, b1.out⟩
def vlIdx (rows : List (List Int × Int)) (args : List Int) : Int := match vlFind rows args with
  | some i => (i : Nat)
  | none => -1
set_option maxRecDepth 100000 in
set_option maxHeartbeats 3200000 in
theorem indexRow_any (vr va : Value) (rows : List (List Int × Int)) (args : List Int) (w : World) (h0 : RowsIn w vr rows) (h1 : NumsIn w va args) :
    Calls Tryz.prog 33 #[vr, .func (.func 34) #[va] #[]] w (RNum .i64 (vlIdx rows args) w) := by
  obtain ⟨p0, c0, rfl, i0, i1, i2, i3⟩ := h0
  unfold maxLen at i1
  have I3 := hid i3; have H1 := hid h1
  obtain ⟨L, hL⟩ : ∃ L, L = rows.length := ⟨_, rfl⟩
  have HL := hid hL
  rw [← hL] at i0 ⊢
  clear i3 i2 h1 hL
  go_enter Tryz.func33, Tryz.ntmps33
  go_wp2_with fail
  go_loopw [8] (fun i wr => ∃ k : Nat, k ≤ L ∧ i = .int .i64 (k : Nat) ∧ Hid (∀ j (hj : j < k) (h1 : j < rows.length), args ≠ rows[j].1) ∧ Hid (Below w.heap.size w wr)) (fun i _ => L - (intOf i).toNat)
  case atStart => exact ⟨0, Nat.zero_le _, rfl, hid (fun j hj => by omega), hid (Below.refl _ _)⟩
  case round =>
    obtain ⟨k, hk, rfl, hE, hB⟩ := hrel
    by_cases hlt : k < L
    · have hkr : k < rows.length := by rw [← HL.out]; exact hlt
      obtain ⟨b, o, rfl, hb, hc⟩ := I3.out (by omega)
      obtain ⟨a, n, s, k0, k1, k2, hr⟩ := hc k hkr
      have hr' := hr
      obtain ⟨⟨pa, ca, rfl, -⟩, hr2⟩ := hr'
      obtain ⟨q0, d0, g0, rfl⟩ := hr2.shape
      have m0 := (hB.out.cell (p := ⟨b, o + k * 3, none⟩) hb).trans k0
      have m1 := (hB.out.cell (p := ⟨b, o + k * 3 + 1, none⟩) hb).trans k1
      have m2 := (hB.out.cell (p := ⟨b, o + k * 3 + 2, none⟩) hb).trans k2
      have Hs := hid (standIn_any va _ _ n args rows[k] wr (H1.out.below hB.out) ⟨hr.1.below hB.out, hr.2.below hB.out⟩)
      have hNo := hid (fun (e : args ≠ rows[k].1) j (hj : j < k + 1) (h1 : j < rows.length) => (by
        by_cases ejk : j = k
        · subst ejk; exact e
        · exact hE.out j (by omega) h1 : args ≠ rows[j].1))
      have hYes := hid (fun (e : args = rows[k].1) => (by
        unfold vlIdx
        rw [vlFind_some hkr e (fun j hj => hE.out j hj (by omega))] : vlIdx rows args = (k : Nat)))
      generalize rows[k].1.length = LL at *
      generalize hdr : decide (args = rows[k].1) = r at Hs
      have Hr := hid hdr
      clear k0 k1 k2 hr hr2 hc hdr hb
      go_wp2_with fail
      refine Hs.out.mono ?_
      rintro e w3 ⟨rfl, b3⟩
      have hB3 := hid (bel_go b3 hB.out)
      clear Hs b3
      cases r
      · go_wp2_with fail
        go_roundw
        case rel => exact ⟨k + 1, by omega, by go_num, hid (hNo.out (of_decide_eq_false Hr.out)), hB3⟩
        case measure => simp [intOf]; omega
      · have hy := hid (hYes.out (of_decide_eq_true Hr.out))
        go_wp2_with fail
        go_ret
        exact ⟨by rw [hy.out]; rfl, hB3.out⟩
    · obtain rfl : k = L := by omega
      have hfin : Hid (vlIdx rows args = -1) := hid (by
        unfold vlIdx
        rw [vlFind_none (fun i hi x hx => by
          have := hE.out i (by rw [HL.out]; exact hi) hi
          have e : rows[i] = x := by simpa [hi] using hx
          rw [← e]; exact this)])
      go_wp2_with fail
      go_ret
      exact ⟨by rw [hfin.out]; rfl, hB.out⟩
end Go.Proofs.YtckkpolikdnilaaGreatDoor
/- slices.ContainsFunc over numbers; value.Tell. -/
namespace Go.Proofs.YtckkpolikdnilaaGreatDoor
open Go.RowKit Big Go.WideMaps

theorem any_take_succ5 {α : Type} (f : α → Bool) (l : List α) (k : Nat) (h : k < l.length) (hk : (l.take k).any f = false) (hf : f l[k] = false) : (l.take (k + 1)).any f = false := by
  rw [List.take_succ_eq_append_getElem h, List.any_append, hk]
  simp [hf]
set_option maxRecDepth 100000 in
set_option maxHeartbeats 3200000 in
theorem indexTrue_any (v : Value) (l : List Int) (w : World) (h : NumsIn w v l) :
    Calls Tryz.prog 117 #[v, .func (.func 36) #[] #[]] w fun e w' => ∃ z : Int, e = .returned (.int .i64 z) ∧ decide (0 ≤ z) = l.any (fun z : Int => z != 0) ∧ Below w.heap.size w w' := by
  obtain ⟨p0, c0, rfl, i0, i1, i2, i3⟩ := h
  unfold maxLen at i1
  have I3 := hid i3
  obtain ⟨L, hL⟩ : ∃ L, L = l.length := ⟨_, rfl⟩
  have HL := hid hL
  rw [← hL] at i0 ⊢
  clear i3 i2 hL
  go_enter Tryz.func117, Tryz.ntmps117
  go_wp2_with fail
  go_loopw [8] (fun i wr => ∃ k : Nat, k ≤ L ∧ i = .int .i64 (k : Nat) ∧ Hid ((l.take k).any (fun z : Int => z != 0) = false) ∧ Hid (Below w.heap.size w wr)) (fun i _ => L - (intOf i).toNat)
  case atStart => exact ⟨0, Nat.zero_le _, rfl, hid rfl, hid (Below.refl _ _)⟩
  case round =>
    obtain ⟨k, hk, rfl, hE, hB⟩ := hrel
    by_cases hlt : k < L
    · have hkr : k < l.length := by rw [← HL.out]; exact hlt
      obtain ⟨b, o, rfl, hb, hc⟩ := I3.out (by omega)
      obtain ⟨n, s, k0, k1, hr⟩ := hc k hkr
      obtain ⟨q0, d0, g0, rfl⟩ := hr.shape
      have m0 := (hB.out.cell (p := ⟨b, o + k * 2, none⟩) hb).trans k0
      have m1 := (hB.out.cell (p := ⟨b, o + k * 2 + 1, none⟩) hb).trans k1
      have Hs := hid (isTrue_any _ l[k] wr (hr.below hB.out))
      have hNo := hid (any_take_succ5 (fun z : Int => z != 0) l k hkr hE.out)
      have hYes : Hid ((fun z : Int => z != 0) l[k] = true → l.any (fun z : Int => z != 0) = true) := hid (fun e => List.any_eq_true.2 ⟨l[k], List.getElem_mem hkr, e⟩)
      dsimp only at Hs hNo hYes
      generalize hr5 : (l[k] != 0) = r at *
      clear hr5
      clear k0 k1 hr hc hb
      go_wp2_with fail
      refine Hs.out.mono ?_
      rintro e w3 ⟨rfl, b3⟩
      have hB3 := hid (bel_go b3 hB.out)
      clear Hs b3
      cases r
      · go_wp2_with fail
        go_roundw
        case rel => exact ⟨k + 1, by omega, by go_num, hid (hNo.out (by trivial)), hB3⟩
        case measure => simp [intOf]; omega
      · have hy := hid (hYes.out rfl)
        go_wp2_with fail
        go_ret
        exact ⟨_, rfl, by rw [hy.out]; simp, hB3.out⟩
    · obtain rfl : k = L := by omega
      have hfin : Hid (l.any (fun z : Int => z != 0) = false) := hid (by have := hE.out; rw [HL.out, List.take_length] at this; exact this)
      go_wp2_with fail
      go_ret
      exact ⟨_, rfl, by rw [hfin.out]; simp, hB.out⟩
set_option maxRecDepth 100000 in
set_option maxHeartbeats 3200000 in
theorem containsTrue_any (v : Value) (l : List Int) (w : World) (h : NumsIn w v l) :
    Calls Tryz.prog 103 #[v, .func (.func 36) #[] #[]] w (RBool (l.any (fun z : Int => z != 0)) w) := by
  have H := hid (indexTrue_any v l w h)
  obtain ⟨p0, c0, rfl, -⟩ := h
  generalize l.any (fun z : Int => z != 0) = r at *
  generalize l.length = L at *
  go_enter Tryz.func103, Tryz.ntmps103
  go_wp2_with fail
  refine H.out.mono ?_
  rintro e w1 ⟨z, rfl, hz, b1⟩
  have hz := hid hz; have b1 := hid b1
  clear H
  go_wp2
  go_ret
  exact ⟨by rw [← hz.out]; rfl, b1.out⟩
set_option maxRecDepth 100000 in
set_option maxHeartbeats 3200000 in
theorem indexFalse_any (v : Value) (l : List Int) (w : World) (h : NumsIn w v l) :
    Calls Tryz.prog 117 #[v, .func (.func 104) #[] #[]] w fun e w' => ∃ z : Int, e = .returned (.int .i64 z) ∧ decide (0 ≤ z) = l.any (fun z : Int => z == 0) ∧ Below w.heap.size w w' := by
  obtain ⟨p0, c0, rfl, i0, i1, i2, i3⟩ := h
  unfold maxLen at i1
  have I3 := hid i3
  obtain ⟨L, hL⟩ : ∃ L, L = l.length := ⟨_, rfl⟩
  have HL := hid hL
  rw [← hL] at i0 ⊢
  clear i3 i2 hL
  go_enter Tryz.func117, Tryz.ntmps117
  go_wp2_with fail
  go_loopw [8] (fun i wr => ∃ k : Nat, k ≤ L ∧ i = .int .i64 (k : Nat) ∧ Hid ((l.take k).any (fun z : Int => z == 0) = false) ∧ Hid (Below w.heap.size w wr)) (fun i _ => L - (intOf i).toNat)
  case atStart => exact ⟨0, Nat.zero_le _, rfl, hid rfl, hid (Below.refl _ _)⟩
  case round =>
    obtain ⟨k, hk, rfl, hE, hB⟩ := hrel
    by_cases hlt : k < L
    · have hkr : k < l.length := by rw [← HL.out]; exact hlt
      obtain ⟨b, o, rfl, hb, hc⟩ := I3.out (by omega)
      obtain ⟨n, s, k0, k1, hr⟩ := hc k hkr
      obtain ⟨q0, d0, g0, rfl⟩ := hr.shape
      have m0 := (hB.out.cell (p := ⟨b, o + k * 2, none⟩) hb).trans k0
      have m1 := (hB.out.cell (p := ⟨b, o + k * 2 + 1, none⟩) hb).trans k1
      have Hs := hid (isFalse_any _ l[k] wr (hr.below hB.out))
      have hNo := hid (any_take_succ5 (fun z : Int => z == 0) l k hkr hE.out)
      have hYes : Hid ((fun z : Int => z == 0) l[k] = true → l.any (fun z : Int => z == 0) = true) := hid (fun e => List.any_eq_true.2 ⟨l[k], List.getElem_mem hkr, e⟩)
      dsimp only at Hs hNo hYes
      generalize hr5 : (l[k] == 0) = r at *
      clear hr5
      clear k0 k1 hr hc hb
      go_wp2_with fail
      refine Hs.out.mono ?_
      rintro e w3 ⟨rfl, b3⟩
      have hB3 := hid (bel_go b3 hB.out)
      clear Hs b3
      cases r
      · go_wp2_with fail
        go_roundw
        case rel => exact ⟨k + 1, by omega, by go_num, hid (hNo.out (by trivial)), hB3⟩
        case measure => simp [intOf]; omega
      · have hy := hid (hYes.out rfl)
        go_wp2_with fail
        go_ret
        exact ⟨_, rfl, by rw [hy.out]; simp, hB3.out⟩
    · obtain rfl : k = L := by omega
      have hfin : Hid (l.any (fun z : Int => z == 0) = false) := hid (by have := hE.out; rw [HL.out, List.take_length] at this; exact this)
      go_wp2_with fail
      go_ret
      exact ⟨_, rfl, by rw [hfin.out]; simp, hB.out⟩
set_option maxRecDepth 100000 in
set_option maxHeartbeats 3200000 in
theorem containsFalse_any (v : Value) (l : List Int) (w : World) (h : NumsIn w v l) :
    Calls Tryz.prog 103 #[v, .func (.func 104) #[] #[]] w (RBool (l.any (fun z : Int => z == 0)) w) := by
  have H := hid (indexFalse_any v l w h)
  obtain ⟨p0, c0, rfl, -⟩ := h
  generalize l.any (fun z : Int => z == 0) = r at *
  generalize l.length = L at *
  go_enter Tryz.func103, Tryz.ntmps103
  go_wp2_with fail
  refine H.out.mono ?_
  rintro e w1 ⟨z, rfl, hz, b1⟩
  have hz := hid hz; have b1 := hid b1
  clear H
  go_wp2
  go_ret
  exact ⟨by rw [← hz.out]; rfl, b1.out⟩
end Go.Proofs.YtckkpolikdnilaaGreatDoor
/- value.Tell. -/
namespace Go.Proofs.YtckkpolikdnilaaGreatDoor
open Go.RowKit Big Go.WideMaps

theorem vlVal_none {t : Tb5} {args : List Int} (h : vlFind t.rows args = none) : vlVal t args = t.els := by unfold vlVal; rw [h]
theorem vlVal_some {t : Tb5} {args : List Int} {i : Nat} (h : vlFind t.rows args = some i) : ∃ hi : i < t.rows.length, vlVal t args = t.rows[i].2 := by
  have hi : i < t.rows.length := by
    unfold vlFind at h
    rw [List.findIdx?_eq_some_iff_getElem] at h
    exact h.1
  refine ⟨hi, ?_⟩
  unfold vlVal; rw [h]; simp [hi]
theorem alloc_keep {w : World} {o : Obj} {g : Nat} {x : Obj} (h : w.heap[g]? = some x) : (w.alloc o).heap[g]? = some x :=
  ((below1 w o).block g (Array.getElem?_eq_some_iff.1 h).1).trans h
theorem alloc_at (w : World) (o : Obj) (g : Nat) (h : w.heap.size = g) : (w.alloc o).heap[g]? = some o := by subst h; exact heap_alloc_new w o
theorem RawAt.set2 {w : World} {v : Value} {z : Int} {g : Nat} {t : TypeId} (h : RawAt w v z) (hp : Pair w g t) (u u' : Value) (x : Bool) (p : Option Addr) (n c : Nat) (e : u = .bool x) (e' : u' = .slice p n c) : RawAt ((w.setCell ⟨g, 0, none⟩ u).setCell ⟨g, 1, none⟩ u') v z := by
  subst e e'
  obtain ⟨neg, s, l, hs, ha, r⟩ := h
  exact ⟨neg, s, l, hs, (ha.set hp 0 _).set (hp.set0 x) 1 _, r⟩
theorem Pair.away {w : World} {g g' : Nat} {t : TypeId} (h : Pair w g t) (hne : g ≠ g') (u u' : Value) : Pair ((w.setCell ⟨g', 0, none⟩ u).setCell ⟨g', 1, none⟩ u') g t := by
  obtain ⟨x, p, n, c, h⟩ := h
  exact ⟨x, p, n, c, ((Below.heap_setCell _ _ _ _ hne).trans (Below.heap_setCell _ _ _ _ hne)).trans h⟩
theorem rec3_cells {w : World} {g : Nat} {a b c : Value} {t : TypeId} (h : w.heap[g]? = some (.cells #[a, b, c] t (0, 0))) : w.cell? ⟨g, 0, none⟩ = some a ∧ w.cell? ⟨g, 1, none⟩ = some b ∧ w.cell? ⟨g, 2, none⟩ = some c := by
  simp [World.cell?, h]
set_option maxRecDepth 100000 in
set_option maxHeartbeats 3200000 in
theorem Tell_any (nm : Value) (hnm : ∃ x, nm = .string x) (ar so : Int) (a s v : Value) (n : Bool) (t : Tb5) (args : List Int) (w : World) (h0 : TabIs w a n s t) (h1 : NumsIn w v args) :
    Calls Tryz.prog 15 #[.agg #[nm, .int .i64 ar, .int .i64 so], .agg #[a, .bool n, s], v] w (RInt (vlTell so t args) w) := by
  obtain ⟨nm, rfl⟩ := hnm
  have h0' := h0
  have h1' := h1
  obtain ⟨⟨pr, cr, rfl, i0, i1, i2, i3⟩, hr⟩ := h0'
  obtain ⟨q0, d0, g0, rfl⟩ := hr.shape
  obtain ⟨pa, ca, rfl, -⟩ := h1'
  obtain ⟨W, hW⟩ : ∃ W, W = ((((w.alloc (.cells #[.string nm, .int .i64 ar, .int .i64 so] 39)).alloc (.cells #[.slice pr t.rows.length cr, .bool n, .slice q0 d0 g0] 46)).alloc (.cells #[.bool false, .slice none 0 0] 44)).alloc (.cells #[.bool n, .slice q0 d0 g0] 44)) := ⟨_, rfl⟩
  have hB : Below w.heap.size w W := by rw [hW]; exact (((below1 w _).alloc (by simp) _).alloc (by simp; omega) _).alloc (by simp; omega) _
  have e0 : W.heap[w.heap.size]? = some (.cells #[.string nm, .int .i64 ar, .int .i64 so] 39 (0, 0)) := by rw [hW]; exact alloc_keep (alloc_keep (alloc_keep (alloc_at _ _ _ rfl)))
  have e1 : W.heap[w.heap.size + 1]? = some (.cells #[.slice pr t.rows.length cr, .bool n, .slice q0 d0 g0] 46 (0, 0)) := by rw [hW]; exact alloc_keep (alloc_keep (alloc_at _ _ _ (by rw [size_alloc])))
  have e2 : W.heap[w.heap.size + 1 + 1]? = some (.cells #[.bool false, .slice none 0 0] 44 (0, 0)) := by rw [hW]; exact alloc_keep (alloc_at _ _ _ (by rw [size_alloc, size_alloc]))
  have e3 : W.heap[w.heap.size + 1 + 1 + 1]? = some (.cells #[.bool n, .slice q0 d0 g0] 44 (0, 0)) := by rw [hW]; exact alloc_at _ _ _ (by rw [size_alloc, size_alloc, size_alloc])
  have H := hid (indexRow_any _ _ t.rows args W (h0.1.below hB) (h1.below hB))
  have z3 : w.heap.size + 1 + 1 + 1 < W.heap.size := by rw [hW, size_alloc, size_alloc, size_alloc, size_alloc]; omega
  have HR := hid (h0.2.below hB)
  have E0 := hid e0; have E1 := hid e1; have E2 := hid e2; have E3 := hid e3; have HB := hid hB
  have I3 := hid i3
  have Z3 := hid z3
  have hvn := hid (@vlVal_none t args)
  have hvs : Hid (∀ i, vlFind t.rows args = some i → ∃ hi : i < t.rows.length, vlVal t args = t.rows[i].2) := hid (fun i h => vlVal_some h)
  clear h0 h1 hr i0 i1 i2 i3 e0 e1 e2 e3 hB z3
  obtain ⟨rr, hrr⟩ : ∃ rr, rr = vlTell so t args := ⟨_, rfl⟩
  have Hrr := hid (show rr = if so = 1 then vlTruth (vlVal t args != 0) else vlVal t args from hrr)
  rw [← hrr]
  clear hrr
  go_enter Tryz.func15, Tryz.ntmps15
  go_wp2_with fail
  rw [← hW]
  clear hW
  refine H.out.mono ?_
  rintro e w1 ⟨rfl, b1⟩
  clear H
  have f0 := rec3_cells ((b1.block w.heap.size (by have := Z3.out; omega)).trans E0.out)
  have f1 := rec3_cells ((b1.block (w.heap.size + 1) (by have := Z3.out; omega)).trans E1.out)
  have f2 : Hid (Pair w1 (w.heap.size + 1 + 1) 44) := hid ⟨_, _, _, _, (b1.block (w.heap.size + 1 + 1) (by have := Z3.out; omega)).trans E2.out⟩
  have f3 : Hid (Pair w1 (w.heap.size + 1 + 1 + 1) 44) := hid ⟨_, _, _, _, (b1.block (w.heap.size + 1 + 1 + 1) (by have := Z3.out; omega)).trans E3.out⟩
  have f4 := pair_cells ((b1.block (w.heap.size + 1 + 1 + 1) (by have := Z3.out; omega)).trans E3.out)
  have HB1 := hid (bel_go b1 HB.out)
  have HR1 := hid (HR.out.below b1)
  have B1 := hid b1
  obtain ⟨-, -, x0⟩ := f0
  obtain ⟨y0, -, -⟩ := f1
  obtain ⟨u0, u1⟩ := f4
  clear E0 E1 E2 E3 b1 HR
  generalize hidx : vlIdx t.rows args = ix
  have Hidx := hid hidx
  clear hidx
  generalize hval : vlVal t args = vv
  have Hval := hid hval
  clear hval
  rcases hf : vlFind t.rows args with _ | i
  · obtain rfl : ix = -1 := by rw [← Hidx.out]; unfold vlIdx; rw [hf]
    have hvv : vv = t.els := by rw [← Hval.out]; exact hvn.out hf
    have HV : Hid (RawAt w1 (.agg #[.bool n, .slice q0 d0 g0]) vv) := by rw [hvv]; exact HR1
    clear hvv hf hvn hvs Hidx
    by_cases hso : so = 1
    · subst hso
      obtain rfl : rr = vlTruth (vv != 0) := by rw [Hrr.out, if_pos rfl, Hval.out]
      clear Hrr Hval
      have Hc := hid (isTrue_any _ vv _ HV.out)
      have t1 : ((1 : Int) == 1) = true := rfl
      clear HV
      go_wp2_with fail
      refine Hc.out.mono ?_
      rintro e w2 ⟨rfl, b2⟩
      have B2 := hid b2
      clear Hc b2
      have Hc := hid (truth_any (vv != 0) w2)
      go_wp2_with fail
      refine Hc.out.mono ?_
      rintro e w3 ⟨v3, rfl, hi, b3⟩
      obtain ⟨p, l, c, rfl, hi⟩ := hi.shape
      have b4 := bel_go b3 B2.out
      have hpr := hid (f2.out.below b4)
      have hq := hpr.out.cells
      obtain ⟨_, _, q0, q1, q2, q3⟩ := hq
      have Hi := hid hi; have Hb := hid (bel_go b4 HB1.out)
      clear hi b3 b4 Hc
      go_wp2
      exact bodyPost_ret (v := .agg #[.bool (decide (vlTruth (vv != 0) < 0)), .slice p l c]) (by simp [results, Tryz.results15, go_sem, q0, q1]) rfl ⟨_, rfl, Hi.out.stored hpr.out _ _ _ _, Below.stored Hb.out (by omega) _ _⟩
    · obtain rfl : vv = rr := by rw [Hrr.out, if_neg hso, Hval.out]
      clear Hrr Hval
      have Hc := hid (Norm_any _ vv _ HV.out)
      have t1 : (so == 1) = false := by simpa using hso
      clear HV
      go_wp2_with fail
      refine Hc.out.mono ?_
      rintro e w3 ⟨v3, rfl, hi, b3⟩
      obtain ⟨p, l, c, rfl, hi⟩ := hi.shape
      have hpr := hid (f2.out.below b3)
      have hq := hpr.out.cells
      obtain ⟨_, _, q0, q1, q2, q3⟩ := hq
      have Hi := hid hi; have Hb := hid (bel_go b3 HB1.out)
      clear hi b3 Hc
      go_wp2
      exact bodyPost_ret (v := .agg #[.bool (decide (vv < 0)), .slice p l c]) (by simp [results, Tryz.results15, go_sem, q0, q1]) rfl ⟨_, rfl, Hi.out.stored hpr.out _ _ _ _, Below.stored Hb.out (by omega) _ _⟩
  · obtain rfl : ix = (i : Nat) := by rw [← Hidx.out]; unfold vlIdx; rw [hf]
    obtain ⟨hil, hv⟩ := hvs.out i hf
    have hvv : vv = (t.rows[i]).2 := by rw [← Hval.out]; exact hv
    obtain ⟨b, o, rfl, hb, hc⟩ := I3.out (by omega)
    obtain ⟨ra, rn, rs, -, k1, k2, hrow⟩ := hc i hil
    have k1 := ((HB1.out).cell (p := ⟨b, o + i * 3 + 1, none⟩) hb).trans k1
    have k2 := ((HB1.out).cell (p := ⟨b, o + i * 3 + 2, none⟩) hb).trans k2
    have k2' : w1.cell? ⟨b, o + i * 3 + 1 + 1, none⟩ = some rs := k2
    have HV := hid (hrow.2.below HB1.out)
    obtain ⟨r1, r2, r3, rfl⟩ := HV.out.shape
    rw [← hvv] at HV
    have hq := f3.out.cells
    obtain ⟨_, _, -, -, v2, v3⟩ := hq
    clear hvv hv hf hvn hvs Hidx hc hrow I3
    have f2 := hid (f2.out.away (g' := w.heap.size + 1 + 1 + 1) (by omega) (.bool rn) (.slice r1 r2 r3))
    have HB1 := hid (Below.stored HB1.out (g := w.heap.size + 1 + 1 + 1) (by omega) (.bool rn) (.slice r1 r2 r3))
    have HV := hid (HV.out.set2 f3.out (.bool rn) (.slice r1 r2 r3) rn r1 r2 r3 rfl rfl)
    by_cases hso : so = 1
    · subst hso
      obtain rfl : rr = vlTruth (vv != 0) := by rw [Hrr.out, if_pos rfl, Hval.out]
      clear Hrr Hval
      have Hc := hid (isTrue_any _ vv _ HV.out)
      have t1 : ((1 : Int) == 1) = true := rfl
      clear HV
      go_wp2_with fail
      refine Hc.out.mono ?_
      rintro e w2 ⟨rfl, b2⟩
      have B2 := hid b2
      clear Hc b2
      have Hc := hid (truth_any (vv != 0) w2)
      go_wp2_with fail
      refine Hc.out.mono ?_
      rintro e w3 ⟨v3, rfl, hi, b3⟩
      obtain ⟨p, l, c, rfl, hi⟩ := hi.shape
      have b4 := bel_go b3 B2.out
      have hpr := hid (f2.out.below b4)
      have hq := hpr.out.cells
      obtain ⟨_, _, q0, q1, q2, q3⟩ := hq
      have Hi := hid hi; have Hb := hid (bel_go b4 HB1.out)
      clear hi b3 b4 Hc
      go_wp2
      exact bodyPost_ret (v := .agg #[.bool (decide (vlTruth (vv != 0) < 0)), .slice p l c]) (by simp [results, Tryz.results15, go_sem, q0, q1]) rfl ⟨_, rfl, Hi.out.stored hpr.out _ _ _ _, Below.stored Hb.out (by omega) _ _⟩
    · obtain rfl : vv = rr := by rw [Hrr.out, if_neg hso, Hval.out]
      clear Hrr Hval
      have Hc := hid (Norm_any _ vv _ HV.out)
      have t1 : (so == 1) = false := by simpa using hso
      clear HV
      go_wp2_with fail
      refine Hc.out.mono ?_
      rintro e w3 ⟨v3, rfl, hi, b3⟩
      obtain ⟨p, l, c, rfl, hi⟩ := hi.shape
      have hpr := hid (f2.out.below b3)
      have hq := hpr.out.cells
      obtain ⟨_, _, q0, q1, q2, q3⟩ := hq
      have Hi := hid hi; have Hb := hid (bel_go b3 HB1.out)
      clear hi b3 Hc
      go_wp2
      exact bodyPost_ret (v := .agg #[.bool (decide (vv < 0)), .slice p l c]) (by simp [results, Tryz.results15, go_sem, q0, q1]) rfl ⟨_, rfl, Hi.out.stored hpr.out _ _ _ _, Below.stored Hb.out (by omega) _ _⟩
end Go.Proofs.YtckkpolikdnilaaGreatDoor
/- pool.faults, wrong. -/
namespace Go.Proofs.YtckkpolikdnilaaGreatDoor
open Go.RowKit Big Go.WideMaps

set_option maxRecDepth 100000 in
set_option maxHeartbeats 3200000 in
theorem faults_any (g : Nat) (w : World) :
    Calls Tryz.prog 113 #[.pointer (some ⟨g, 0, none⟩)] w fun e w' => e = .returned (.agg #[.func (.func 124) #[] #[], .int .i64 6, .func (.func 125) #[.pointer (some ⟨g, 0, none⟩)] #[], .int .i64 7, .func (.func 126) #[.pointer (some ⟨g, 0, none⟩)] #[], .int .i64 1, .func (.func 127) #[.pointer (some ⟨g, 0, none⟩)] #[], .int .i64 9, .func (.func 128) #[.pointer (some ⟨g, 0, none⟩)] #[], .int .i64 8]) ∧ Below w.heap.size w w' := by
  go_enter Tryz.func113, Tryz.ntmps113
  go_wp2
  refine bodyPost_ret (v := _) (by simp [results, Tryz.results113, go_sem, World.cell?_alloc_new]) rfl ⟨rfl, below1 _ _⟩
-- made
/-- nothing of the first k faults is there -/
def plOk (p : Po) (t : Tm) (k : Nat) : Prop := (1 ≤ k → plBadForm t = false) ∧ (2 ≤ k → plNoSym p t = false) ∧ (3 ≤ k → plNoPart p t = false) ∧ (4 ≤ k → plBadCount p t = false) ∧ (5 ≤ k → plBadSort p t = false)
theorem iteIn_of (p : Po) (t : Tm) (hp : plNoPart p t = false) (hc : plBadCount p t = false) : IteIn p t := by
  intro h9
  have h3 : t.args.length = 3 := by
    unfold plBadCount at hc
    rw [if_neg (by omega), h9] at hc
    simp [plRu, plRule] at hc
    omega
  refine ⟨by omega, ?_⟩
  have h0 : plNoTerm p (t.args[1]'(by omega)) = false := by
    cases hx : plNoTerm p (t.args[1]'(by omega)) with
    | false => rfl
    | true =>
      have h2 : plNoPart p t = true := List.any_eq_true.2 ⟨_, List.getElem_mem _, hx⟩
      rw [hp] at h2
      cases h2
  unfold plNoTerm at h0
  simp at h0
  exact ⟨(t.args[1]'(by omega)).toNat, by omega, by omega⟩
theorem fault_cells (w : World) (f : Value) (e : Int) (t : TypeId) : (w.alloc (.cells #[f, .int .i64 e] t)).cell? ⟨w.heap.size, 0, none⟩ = some f ∧ (w.alloc (.cells #[f, .int .i64 e] t)).cell? ⟨w.heap.size, 1, none⟩ = some (.int .i64 e) := by
  have h := two_cells (heap_alloc_new w (.cells #[f, .int .i64 e] t))
  exact ⟨h.1, h.2.1⟩

/-- the list of the faults, as it is indexed -/
def FxAt (g : Nat) (F : Value) : Prop := (∀ w, (Instr.index 146 F (.int .i64 0)).run Tryz.prog w = .ok (.agg #[.func (.func 124) #[] #[], .int .i64 6]) w) ∧ (∀ w, (Instr.index 146 F (.int .i64 1)).run Tryz.prog w = .ok (.agg #[.func (.func 125) #[.pointer (some ⟨g, 0, none⟩)] #[], .int .i64 7]) w) ∧ (∀ w, (Instr.index 146 F (.int .i64 2)).run Tryz.prog w = .ok (.agg #[.func (.func 126) #[.pointer (some ⟨g, 0, none⟩)] #[], .int .i64 1]) w) ∧ (∀ w, (Instr.index 146 F (.int .i64 3)).run Tryz.prog w = .ok (.agg #[.func (.func 127) #[.pointer (some ⟨g, 0, none⟩)] #[], .int .i64 9]) w) ∧ (∀ w, (Instr.index 146 F (.int .i64 4)).run Tryz.prog w = .ok (.agg #[.func (.func 128) #[.pointer (some ⟨g, 0, none⟩)] #[], .int .i64 8]) w)
theorem faults2_any (g : Nat) (w : World) : Calls Tryz.prog 113 #[.pointer (some ⟨g, 0, none⟩)] w fun e w' => ∃ F, e = .returned F ∧ Hid (FxAt g F) ∧ Below w.heap.size w w' := by
  refine (faults_any g w).mono ?_
  rintro e w' ⟨rfl, hb⟩
  exact ⟨_, rfl, hid ⟨fun w => by kernel_rfl, fun w => by kernel_rfl, fun w => by kernel_rfl, fun w => by kernel_rfl, fun w => by kernel_rfl⟩, hb⟩

set_option maxRecDepth 100000 in
set_option maxHeartbeats 6400000 in
theorem wrong_any (g : Nat) (p : Po) (t : Tm) (v : Value) (w : World) (h : PoRd w g p) (ht : TmRaw w v t) :
    Calls Tryz.prog 99 #[.pointer (some ⟨g, 0, none⟩), v] w (RNum .i64 (plWrong p t) w) := by
  have Hpt := hid ht
  have Hpo := hid h
  obtain ⟨pa, ca, b, pm, nm, cm, rfl, -, -⟩ := ht
  have q0 := cell_new5 w (.int .i64 t.op) (.slice pa t.args.length ca) (.bool b) (.slice pm nm cm) (.int .i64 t.sym) 71
  have b0 := below1 w (.cells #[.int .i64 t.op, .slice pa t.args.length ca, .bool b, .slice pm nm cm, .int .i64 t.sym] 71)
  have hs0 := size_alloc w (.cells #[.int .i64 t.op, .slice pa t.args.length ca, .bool b, .slice pm nm cm, .int .i64 t.sym] 71)
  obtain ⟨r, hr⟩ : ∃ r, r = plWrong p t := ⟨_, rfl⟩
  rw [← hr]
  unfold plWrong at hr
  have Hr := hid hr
  clear h hr
  go_enter Tryz.func99, Tryz.ntmps99
  go_wp2_with fail
  generalize hW : (w.alloc (.cells #[.int .i64 t.op, .slice pa t.args.length ca, .bool b, .slice pm nm cm, .int .i64 t.sym] 71)) = W0 at *
  clear hW
  refine (faults2_any g _).mono ?_
  rintro e w1 ⟨FV, rfl, HF, b1⟩
  obtain ⟨x0, x1, x2, x3, x4⟩ := q0
  have hwz : w.heap.size < W0.heap.size := by omega
  have hz1 := b1.size
  have hwz1 : w.heap.size < w1.heap.size := by omega
  have bw1 : Below w.heap.size w w1 := bel_go b1 b0
  have y0 := (b1.cell (p := ⟨w.heap.size, 0, none⟩) hwz).trans x0
  have y1 := (b1.cell (p := ⟨w.heap.size, 1, none⟩) hwz).trans x1
  have y2 := (b1.cell (p := ⟨w.heap.size, 2, none⟩) hwz).trans x2
  have y3 := (b1.cell (p := ⟨w.heap.size, 3, none⟩) hwz).trans x3
  have y4 := (b1.cell (p := ⟨w.heap.size, 4, none⟩) hwz).trans x4
  have HY := hid (show w1.cell? ⟨w.heap.size, 0, none⟩ = some (.int .i64 t.op) ∧ w1.cell? ⟨w.heap.size, 1, none⟩ = some (.slice pa t.args.length ca) ∧ w1.cell? ⟨w.heap.size, 2, none⟩ = some (.bool b) ∧ w1.cell? ⟨w.heap.size, 3, none⟩ = some (.slice pm nm cm) ∧ w1.cell? ⟨w.heap.size, 4, none⟩ = some (.int .i64 t.sym) from ⟨y0, y1, y2, y3, y4⟩)
  clear x0 x1 x2 x3 x4 y0 y1 y2 y3 y4 b0 hs0
  go_wp2_with fail
  go_loopw [9] (fun i wr => ∃ (k : Nat) (z : Int), k ≤ 5 ∧ z = (k : Nat) ∧ i = .int .i64 z ∧ Hid (plOk p t k) ∧ Hid (Below w1.heap.size w1 wr)) (fun i _ => 5 - (intOf i).toNat)
  case atStart => exact ⟨0, 0, by omega, rfl, rfl, hid ⟨fun h => absurd h (by decide), fun h => absurd h (by decide), fun h => absurd h (by decide), fun h => absurd h (by decide), fun h => absurd h (by decide)⟩, hid (Below.refl _ _)⟩
  case round =>
    obtain ⟨k, z, hk5, hz, rfl, hk, Hb⟩ := hrel
    have hbw : Below w.heap.size w wr := bel_go Hb.out bw1
    have hsr := Hb.out.size
    obtain ⟨y0, y1, y2, y3, y4⟩ := HY.out
    have v0 := (Hb.out.cell (p := ⟨w.heap.size, 0, none⟩) hwz1).trans y0
    have v1 := (Hb.out.cell (p := ⟨w.heap.size, 1, none⟩) hwz1).trans y1
    have v2 := (Hb.out.cell (p := ⟨w.heap.size, 2, none⟩) hwz1).trans y2
    have v3 := (Hb.out.cell (p := ⟨w.heap.size, 3, none⟩) hwz1).trans y3
    have v4 := (Hb.out.cell (p := ⟨w.heap.size, 4, none⟩) hwz1).trans y4
    clear y0 y1 y2 y3 y4
    have hcs : k = 0 ∨ k = 1 ∨ k = 2 ∨ k = 3 ∨ k = 4 ∨ k = 5 := by omega
    rcases hcs with rfl | rfl | rfl | rfl | rfl | rfl
    · have hz5 : z < 5 := by omega
      go_upto_region 3 with fail
      obtain rfl : z = 0 := by omega
      have hix := HF.out.1
      clear hz5 hz hk5
      go_upto_region 4 with fail
      have hc : ∀ W, Below w.heap.size w W → Calls Tryz.prog 124 #[.agg #[.int .i64 t.op, .slice pa t.args.length ca, .bool b, .slice pm nm cm, .int .i64 t.sym]] W (RBool (plBadForm t) W) := fun W hb => hasWrongForm_any t _ W (Hpt.out.below hb)
      have Hc := hid hc
      have fc := fault_cells wr (.func (.func 124) #[] #[]) 6 145
      have fb := below1 wr (.cells #[.func (.func 124) #[] #[], .int .i64 6] 145)
      have fs := size_alloc wr (.cells #[.func (.func 124) #[] #[], .int .i64 6] 145)
      obtain ⟨f0, f1⟩ := fc
      clear hc
      have v0 := (fb.cell (p := ⟨w.heap.size, 0, none⟩) (by dsimp only; omega)).trans v0
      have v1 := (fb.cell (p := ⟨w.heap.size, 1, none⟩) (by dsimp only; omega)).trans v1
      have v2 := (fb.cell (p := ⟨w.heap.size, 2, none⟩) (by dsimp only; omega)).trans v2
      have v3 := (fb.cell (p := ⟨w.heap.size, 3, none⟩) (by dsimp only; omega)).trans v3
      have v4 := (fb.cell (p := ⟨w.heap.size, 4, none⟩) (by dsimp only; omega)).trans v4
      go_wp2_with fail
      refine (Hc.out _ (bel_go fb hbw)).mono ?_
      rintro e w6 ⟨rfl, b6⟩
      have f1 := (b6.cell (p := ⟨wr.heap.size, 1, none⟩) (by dsimp only; omega)).trans f1
      have hb6 : Below w1.heap.size w1 w6 := bel_go b6 (bel_go fb Hb.out)
      have HB6 := hid hb6
      clear v0 v1 v2 v3 v4 b6 hb6 f0 fb
      cases hx : plBadForm t
      · have Hx := hx
        go_wp2_with fail
        go_roundw
        case rel => exact ⟨1, 1, by omega, rfl, by first | rfl | simp, hid ⟨fun h => Hx, fun h => absurd h (by decide), fun h => absurd h (by decide), fun h => absurd h (by decide), fun h => absurd h (by decide)⟩, HB6⟩
        case measure => simp [intOf]
      · go_wp2_with fail
        go_ret
        refine ⟨?_, bel_go HB6.out bw1⟩
        have hr := Hr.out
        rw [hr]
        simp [hx]
    · have hz5 : z < 5 := by omega
      go_upto_region 3 with fail
      obtain rfl : z = 1 := by omega
      have hix := HF.out.2.1
      clear hz5 hz hk5
      go_upto_region 4 with fail
      have hc : ∀ W, Below w.heap.size w W → Calls Tryz.prog 125 #[.pointer (some ⟨g, 0, none⟩), .agg #[.int .i64 t.op, .slice pa t.args.length ca, .bool b, .slice pm nm cm, .int .i64 t.sym]] W (RBool (plNoSym p t) W) := fun W hb => hasNoSymbol_any g p t _ W (Hpo.out.below hb) (Hpt.out.below hb)
      have Hc := hid hc
      have fc := fault_cells wr (.func (.func 125) #[.pointer (some ⟨g, 0, none⟩)] #[]) 7 145
      have fb := below1 wr (.cells #[.func (.func 125) #[.pointer (some ⟨g, 0, none⟩)] #[], .int .i64 7] 145)
      have fs := size_alloc wr (.cells #[.func (.func 125) #[.pointer (some ⟨g, 0, none⟩)] #[], .int .i64 7] 145)
      obtain ⟨f0, f1⟩ := fc
      clear hc
      have v0 := (fb.cell (p := ⟨w.heap.size, 0, none⟩) (by dsimp only; omega)).trans v0
      have v1 := (fb.cell (p := ⟨w.heap.size, 1, none⟩) (by dsimp only; omega)).trans v1
      have v2 := (fb.cell (p := ⟨w.heap.size, 2, none⟩) (by dsimp only; omega)).trans v2
      have v3 := (fb.cell (p := ⟨w.heap.size, 3, none⟩) (by dsimp only; omega)).trans v3
      have v4 := (fb.cell (p := ⟨w.heap.size, 4, none⟩) (by dsimp only; omega)).trans v4
      go_wp2_with fail
      refine (Hc.out _ (bel_go fb hbw)).mono ?_
      rintro e w6 ⟨rfl, b6⟩
      have f1 := (b6.cell (p := ⟨wr.heap.size, 1, none⟩) (by dsimp only; omega)).trans f1
      have hb6 : Below w1.heap.size w1 w6 := bel_go b6 (bel_go fb Hb.out)
      have HB6 := hid hb6
      clear v0 v1 v2 v3 v4 b6 hb6 f0 fb
      cases hx : plNoSym p t
      · have Hx := hx
        go_wp2_with fail
        go_roundw
        case rel => exact ⟨2, 2, by omega, rfl, by first | rfl | simp, hid ⟨fun h => hk.out.1 (by decide), fun h => Hx, fun h => absurd h (by decide), fun h => absurd h (by decide), fun h => absurd h (by decide)⟩, HB6⟩
        case measure => simp [intOf]
      · go_wp2_with fail
        go_ret
        refine ⟨?_, bel_go HB6.out bw1⟩
        have hr := Hr.out
        rw [hr]
        simp [hx, hk.out.1 (by decide)]
    · have hz5 : z < 5 := by omega
      go_upto_region 3 with fail
      obtain rfl : z = 2 := by omega
      have hix := HF.out.2.2.1
      clear hz5 hz hk5
      go_upto_region 4 with fail
      have hc : ∀ W, Below w.heap.size w W → Calls Tryz.prog 126 #[.pointer (some ⟨g, 0, none⟩), .agg #[.int .i64 t.op, .slice pa t.args.length ca, .bool b, .slice pm nm cm, .int .i64 t.sym]] W (RBool (plNoPart p t) W) := fun W hb => hasNoPart_any g p t _ W (Hpo.out.below hb) (Hpt.out.below hb)
      have Hc := hid hc
      have fc := fault_cells wr (.func (.func 126) #[.pointer (some ⟨g, 0, none⟩)] #[]) 1 145
      have fb := below1 wr (.cells #[.func (.func 126) #[.pointer (some ⟨g, 0, none⟩)] #[], .int .i64 1] 145)
      have fs := size_alloc wr (.cells #[.func (.func 126) #[.pointer (some ⟨g, 0, none⟩)] #[], .int .i64 1] 145)
      obtain ⟨f0, f1⟩ := fc
      clear hc
      have v0 := (fb.cell (p := ⟨w.heap.size, 0, none⟩) (by dsimp only; omega)).trans v0
      have v1 := (fb.cell (p := ⟨w.heap.size, 1, none⟩) (by dsimp only; omega)).trans v1
      have v2 := (fb.cell (p := ⟨w.heap.size, 2, none⟩) (by dsimp only; omega)).trans v2
      have v3 := (fb.cell (p := ⟨w.heap.size, 3, none⟩) (by dsimp only; omega)).trans v3
      have v4 := (fb.cell (p := ⟨w.heap.size, 4, none⟩) (by dsimp only; omega)).trans v4
      go_wp2_with fail
      refine (Hc.out _ (bel_go fb hbw)).mono ?_
      rintro e w6 ⟨rfl, b6⟩
      have f1 := (b6.cell (p := ⟨wr.heap.size, 1, none⟩) (by dsimp only; omega)).trans f1
      have hb6 : Below w1.heap.size w1 w6 := bel_go b6 (bel_go fb Hb.out)
      have HB6 := hid hb6
      clear v0 v1 v2 v3 v4 b6 hb6 f0 fb
      cases hx : plNoPart p t
      · have Hx := hx
        go_wp2_with fail
        go_roundw
        case rel => exact ⟨3, 3, by omega, rfl, by first | rfl | simp, hid ⟨fun h => hk.out.1 (by decide), fun h => hk.out.2.1 (by decide), fun h => Hx, fun h => absurd h (by decide), fun h => absurd h (by decide)⟩, HB6⟩
        case measure => simp [intOf]
      · go_wp2_with fail
        go_ret
        refine ⟨?_, bel_go HB6.out bw1⟩
        have hr := Hr.out
        rw [hr]
        simp [hx, hk.out.1 (by decide), hk.out.2.1 (by decide)]
    · have hz5 : z < 5 := by omega
      go_upto_region 3 with fail
      obtain rfl : z = 3 := by omega
      have hix := HF.out.2.2.2.1
      clear hz5 hz hk5
      go_upto_region 4 with fail
      have hc : ∀ W, Below w.heap.size w W → Calls Tryz.prog 127 #[.pointer (some ⟨g, 0, none⟩), .agg #[.int .i64 t.op, .slice pa t.args.length ca, .bool b, .slice pm nm cm, .int .i64 t.sym]] W (RBool (plBadCount p t) W) := fun W hb => hasWrongCount_any g p t _ W (Hpo.out.below hb) (Hpt.out.below hb) (hk.out.2.1 (by decide))
      have Hc := hid hc
      have fc := fault_cells wr (.func (.func 127) #[.pointer (some ⟨g, 0, none⟩)] #[]) 9 145
      have fb := below1 wr (.cells #[.func (.func 127) #[.pointer (some ⟨g, 0, none⟩)] #[], .int .i64 9] 145)
      have fs := size_alloc wr (.cells #[.func (.func 127) #[.pointer (some ⟨g, 0, none⟩)] #[], .int .i64 9] 145)
      obtain ⟨f0, f1⟩ := fc
      clear hc
      have v0 := (fb.cell (p := ⟨w.heap.size, 0, none⟩) (by dsimp only; omega)).trans v0
      have v1 := (fb.cell (p := ⟨w.heap.size, 1, none⟩) (by dsimp only; omega)).trans v1
      have v2 := (fb.cell (p := ⟨w.heap.size, 2, none⟩) (by dsimp only; omega)).trans v2
      have v3 := (fb.cell (p := ⟨w.heap.size, 3, none⟩) (by dsimp only; omega)).trans v3
      have v4 := (fb.cell (p := ⟨w.heap.size, 4, none⟩) (by dsimp only; omega)).trans v4
      go_wp2_with fail
      refine (Hc.out _ (bel_go fb hbw)).mono ?_
      rintro e w6 ⟨rfl, b6⟩
      have f1 := (b6.cell (p := ⟨wr.heap.size, 1, none⟩) (by dsimp only; omega)).trans f1
      have hb6 : Below w1.heap.size w1 w6 := bel_go b6 (bel_go fb Hb.out)
      have HB6 := hid hb6
      clear v0 v1 v2 v3 v4 b6 hb6 f0 fb
      cases hx : plBadCount p t
      · have Hx := hx
        go_wp2_with fail
        go_roundw
        case rel => exact ⟨4, 4, by omega, rfl, by first | rfl | simp, hid ⟨fun h => hk.out.1 (by decide), fun h => hk.out.2.1 (by decide), fun h => hk.out.2.2.1 (by decide), fun h => Hx, fun h => absurd h (by decide)⟩, HB6⟩
        case measure => simp [intOf]
      · go_wp2_with fail
        go_ret
        refine ⟨?_, bel_go HB6.out bw1⟩
        have hr := Hr.out
        rw [hr]
        simp [hx, hk.out.1 (by decide), hk.out.2.1 (by decide), hk.out.2.2.1 (by decide)]
    · have hz5 : z < 5 := by omega
      go_upto_region 3 with fail
      obtain rfl : z = 4 := by omega
      have hix := HF.out.2.2.2.2
      clear hz5 hz hk5
      go_upto_region 4 with fail
      have hc : ∀ W, Below w.heap.size w W → Calls Tryz.prog 128 #[.pointer (some ⟨g, 0, none⟩), .agg #[.int .i64 t.op, .slice pa t.args.length ca, .bool b, .slice pm nm cm, .int .i64 t.sym]] W (RBool (plBadSort p t) W) := fun W hb => hasWrongSort_any g p t _ W (Hpo.out.below hb) (Hpt.out.below hb) (iteIn_of p t (hk.out.2.2.1 (by decide)) (hk.out.2.2.2.1 (by decide))) (hk.out.2.2.1 (by decide))
      have Hc := hid hc
      have fc := fault_cells wr (.func (.func 128) #[.pointer (some ⟨g, 0, none⟩)] #[]) 8 145
      have fb := below1 wr (.cells #[.func (.func 128) #[.pointer (some ⟨g, 0, none⟩)] #[], .int .i64 8] 145)
      have fs := size_alloc wr (.cells #[.func (.func 128) #[.pointer (some ⟨g, 0, none⟩)] #[], .int .i64 8] 145)
      obtain ⟨f0, f1⟩ := fc
      clear hc
      have v0 := (fb.cell (p := ⟨w.heap.size, 0, none⟩) (by dsimp only; omega)).trans v0
      have v1 := (fb.cell (p := ⟨w.heap.size, 1, none⟩) (by dsimp only; omega)).trans v1
      have v2 := (fb.cell (p := ⟨w.heap.size, 2, none⟩) (by dsimp only; omega)).trans v2
      have v3 := (fb.cell (p := ⟨w.heap.size, 3, none⟩) (by dsimp only; omega)).trans v3
      have v4 := (fb.cell (p := ⟨w.heap.size, 4, none⟩) (by dsimp only; omega)).trans v4
      go_wp2_with fail
      refine (Hc.out _ (bel_go fb hbw)).mono ?_
      rintro e w6 ⟨rfl, b6⟩
      have f1 := (b6.cell (p := ⟨wr.heap.size, 1, none⟩) (by dsimp only; omega)).trans f1
      have hb6 : Below w1.heap.size w1 w6 := bel_go b6 (bel_go fb Hb.out)
      have HB6 := hid hb6
      clear v0 v1 v2 v3 v4 b6 hb6 f0 fb
      cases hx : plBadSort p t
      · have Hx := hx
        go_wp2_with fail
        go_roundw
        case rel => exact ⟨5, 5, by omega, rfl, by first | rfl | simp, hid ⟨fun h => hk.out.1 (by decide), fun h => hk.out.2.1 (by decide), fun h => hk.out.2.2.1 (by decide), fun h => hk.out.2.2.2.1 (by decide), fun h => Hx⟩, HB6⟩
        case measure => simp [intOf]
      · go_wp2_with fail
        go_ret
        refine ⟨?_, bel_go HB6.out bw1⟩
        have hr := Hr.out
        rw [hr]
        simp [hx, hk.out.1 (by decide), hk.out.2.1 (by decide), hk.out.2.2.1 (by decide), hk.out.2.2.2.1 (by decide)]
    · have hz5 : ¬ z < 5 := by omega
      have hr0 : r = 0 := by
        have hr := Hr.out
        rw [hk.out.1 (by decide), hk.out.2.1 (by decide), hk.out.2.2.1 (by decide), hk.out.2.2.2.1 (by decide), hk.out.2.2.2.2 (by decide)] at hr
        rw [hr]
        rfl
      clear Hr
      subst hr0
      go_wp2_with fail
      go_ret
      exact ⟨rfl, hbw⟩
end Go.Proofs.YtckkpolikdnilaaGreatDoor
/- An append of a slice of ints to a row of the call's own; what lies apart from a term's box. -/
namespace Go.Proofs.YtckkpolikdnilaaGreatDoor
open Go.RowKit Big Go.WideMaps

/-- ints that may be below 0, as a row -/
def zints (l : List Int) : List Value := l.map fun x => Value.int .i64 x
theorem zints_length (l : List Int) : (zints l).length = l.length := by simp [zints]
section
variable {P : Program} {w : World} {ops : Array Oper} {rest : List Oper} {o : Oper} {a : Act} {Q : Exit → Act → World → Prop}
/-- 'append(v, x...)': v the call's own, x whatever slice of ints -/
theorem wpList_append_zints (hgd : o.guard = none) (s x : Operand) (t : TypeId)
    (ho : o.op = .call { callee := .builtin .append, args := #[s, x], argTypes := #[t, t] })
    {e : TypeId} {size : Nat} (E : Elem P t e .i64 size) (base : Nat) (v : Value) (l : List Int) (hs : a.eval s = v) (hown : w.ownsRow base e 1 v l.length (zints l))
    (vx : Value) (m : List Int) (hx : a.eval x = vx) (hat : IAt w vx m)
    (hlen : l.length + m.length ≤ maxLen) (hbytes : (l.length + m.length) * size ≤ 140737488355328) (hbase : base ≤ w.heap.size)
    (h : ∀ v' w', w'.ownsRow base e 1 v' (l ++ m).length (zints (l ++ m)) → Below base w w' → w.heap.size ≤ w'.heap.size → wpList P ops Q rest (a.put o.dst v') w') : wpList P ops Q (o :: rest) a w := by
  obtain ⟨i, hi, hz, hsz, hby⟩ := E.row
  obtain ⟨p, cap, rfl, h1, h2, h3, h4⟩ := hat
  cases p with
  | none =>
    obtain rfl := h3 rfl
    obtain rfl : m = [] := List.eq_nil_of_length_eq_zero (by omega)
    exact wpList_append_own_none hgd s x t ho base e i 1 E.und hi v l.length (zints l) hs hown hx (h _ _ (by rw [List.append_nil]; exact hown) (Below.refl _ _) (Nat.le_refl _))
  | some ad =>
    refine wpList_append_own w hgd s x t ho base e i (.int .i64 0) 1 size E.und hi hz hsz hby rfl (by decide) v l.length (zints l) hs hown ad m.length cap (zints m) hx (by simp [zints_length]) ?_ ?_ hlen hbytes hbase ?_
    · intro j u hj
      by_cases hjm : j < m.length
      · obtain ⟨b, off, he, hb, hc⟩ := h4 (by omega)
        cases he
        rw [Go.WideShapes.add_plain, hc j hjm]
        simpa [zints, hjm] using hj
      · rw [List.getElem?_eq_none (by rw [zints_length]; omega)] at hj; cases hj
    · intro u hu
      obtain ⟨n, _, rfl⟩ := List.mem_map.1 hu
      rfl
    · intro v' w' h5 h6 _
      refine h v' w' ?_ ((Below.refl _ _).grown h6 hbase (fun g hg => (World.ownsRow.lt hown g hg).1)) h6.size
      rw [List.length_append, show zints (l ++ m) = zints l ++ zints m by simp [zints]]; exact h5
end
/-- a row of ints of the call's own reads as these ints -/
theorem IAt.own {w : World} {base : Nat} {e : TypeId} {v : Value} {l : List Int} (h : w.ownsRow base e 1 v l.length (zints l)) : IAt w v l := by
  rcases h.2 with ⟨rfl, h0⟩ | ⟨g, cap, cur, rfl, hb, hh, k1, k2, k3, k4⟩
  · have : l = [] := List.eq_nil_of_length_eq_zero h0
    subst this
    exact IAt.nil w
  · refine ⟨_, cap, rfl, k1, k2, by simp, fun _ => ⟨g, 0, rfl, (Array.getElem?_eq_some_iff.1 hh).1, fun i hi => ?_⟩⟩
    have := h.cellAt i (by omega)
    rw [Nat.zero_add, this]
    simp [zints, hi]
/-- no word lies in a block that holds none -/
def noWord : Value → Bool
  | .int .u64 _ => false
  | _ => true
theorem At.offRec {w : World} {v : Value} {l : List Nat} {g : Nat} {t : TypeId} {cs : Array Value} (h : At w .u64 v l) (hp : w.heap[g]? = some (.cells cs t (0, 0))) (hf : cs.all noWord = true) (j : Nat) (u : Value) : At (w.setCell ⟨g, j, none⟩ u) .u64 v l := by
  obtain ⟨p, cap, hv, h1, h2, h3, h4⟩ := h
  refine ⟨p, cap, hv, h1, h2, h3, fun hl => ?_⟩
  obtain ⟨b, off, h5, h6, h7⟩ := h4 hl
  have hne : b ≠ g := by
    intro e
    subst e
    have h8 := h7 0 hl
    rw [Nat.add_zero, cell_of_row w b off _ t (0, 0) hp] at h8
    have h9 := Array.all_eq_true.1 hf off (Array.getElem?_eq_some_iff.1 h8).1
    rw [(Array.getElem?_eq_some_iff.1 h8).2] at h9
    cases h9
  refine ⟨b, off, h5, by simpa using h6, fun i hi => ?_⟩
  rw [← h7 i hi]
  have hh := Below.heap_setCell w ⟨g, j, none⟩ u b hne
  simp only [World.cell?, hh]
end Go.Proofs.YtckkpolikdnilaaGreatDoor
/- whole.told, whole.Norm: what they tell lies in memory of its own. -/
namespace Go.Proofs.YtckkpolikdnilaaGreatDoor
open Go.RowKit Big

/-- a whole number as it is told, its words a row from block B on -/
def IntOwn (w : World) (B : Nat) (v : Value) (z : Int) : Prop := ∃ s, v = .agg #[.bool (decide (z < 0)), s] ∧ Own w B 94 .u64 s (dig W z.natAbs)
theorem IntOwn.told {w : World} {B : Nat} {v : Value} {z : Int} (h : IntOwn w B v z) : IntAt w v z := by
  obtain ⟨s, rfl, h⟩ := h
  exact ⟨s, rfl, h.at⟩
theorem IntOwn.kept {w w' : World} {B : Nat} {v : Value} {z : Int} (h : IntOwn w B v z) (hb : Below w.heap.size w w') : IntOwn w' B v z := by
  obtain ⟨s, rfl, h⟩ := h
  exact ⟨s, rfl, h.kept hb⟩
theorem IntOwn.mono {w : World} {B B' : Nat} {v : Value} {z : Int} (h : IntOwn w B v z) (hb : B' ≤ B) : IntOwn w B' v z := by
  obtain ⟨s, rfl, h⟩ := h
  exact ⟨s, rfl, h.mono hb⟩
theorem IntOwn.zero (w : World) (B : Nat) : IntOwn w B (.agg #[.bool false, .slice none 0 0]) 0 := ⟨_, by simp, Own.nil w B _ _⟩
theorem IntOwn.mk {w : World} {B : Nat} {neg : Bool} {s : Value} {n : Nat} (h0 : n ≠ 0) (h : Own w B 94 .u64 s (dig W n)) : IntOwn w B (.agg #[.bool neg, s]) (sg neg n) :=
  ⟨s, by rw [sg_neg neg n h0], by rw [sg_natAbs]; exact h⟩
theorem IntOwn.shape {w : World} {B : Nat} {v : Value} {z : Int} (h : IntOwn w B v z) : ∃ p n c, v = .agg #[.bool (decide (z < 0)), .slice p n c] ∧ IntOwn w B (.agg #[.bool (decide (z < 0)), .slice p n c]) z := by
  have h1 := h.told
  obtain ⟨p, n, c, rfl, -⟩ := h1.shape
  exact ⟨p, n, c, rfl, h⟩
theorem IntOwn.stored {w : World} {B : Nat} {v : Value} {z : Int} {g : Nat} (h : IntOwn w B v z) (hg : g < B) (u u' : Value) :
    IntOwn ((w.setCell ⟨g, 0, none⟩ u).setCell ⟨g, 1, none⟩ u') B v z := by
  obtain ⟨s, rfl, h⟩ := h
  exact ⟨s, rfl, ownsRow_setCell_below (ownsRow_setCell_below h (a := ⟨g, 0, none⟩) hg u) (a := ⟨g, 1, none⟩) hg u'⟩

set_option maxHeartbeats 400000 in
theorem told_own (neg : Bool) (s : Value) (n B : Nat) (w : World) (h : Own w B 94 .u64 s (dig W n)) :
    Calls Tryz.prog 58 #[.bool neg, s] w fun e w' => ∃ v, e = .returned v ∧ IntOwn w' B v (sg neg n) ∧ Below w.heap.size w w' := by
  have hat := hid h
  obtain ⟨p, cap, rfl, h1, h2, h3, h4⟩ := h.at
  unfold maxLen at h2
  clear h4 h
  by_cases h0 : (dig W n).length = 0
  · have hn : n = 0 := (dig_eq_nil W2).1 (List.eq_nil_of_length_eq_zero h0)
    have Hn := hid hn; clear hn
    go_enter Tryz.func58, Tryz.ntmps58
    go_wp2
    exact bodyPost_ret (v := .agg #[.bool false, .slice none 0 0]) (by simp [results, Tryz.results58, go_sem]) rfl ⟨_, rfl, by rw [Hn.out, sg_zero]; exact IntOwn.zero _ _, below1 _ _⟩
  · have hn : n ≠ 0 := fun e => h0 (by rw [e]; rfl)
    have Hn := hid hn; clear hn
    go_enter Tryz.func58, Tryz.ntmps58
    go_wp2
    exact bodyPost_ret (v := .agg #[.bool neg, .slice p (dig W n).length cap]) (by simp [results, Tryz.results58, go_sem]) rfl ⟨_, rfl, IntOwn.mk Hn.out (hat.out.kept (below1 _ _)), below1 _ _⟩

set_option maxHeartbeats 1600000 in
theorem Norm_own (v : Value) (z : Int) (w : World) (h : RawAt w v z) : Calls Tryz.prog 37 #[v] w fun e w' => ∃ v', e = .returned v' ∧ IntOwn w' w.heap.size v' z ∧ Below w.heap.size w w' := by
  obtain ⟨neg, s, l, rfl, ha, hs, hl, rfl⟩ := h
  have Hs := hid (strip_dig W2 hs)
  go_enter Tryz.func37, Tryz.ntmps37
  go_wp2_with fail
  go_region_held3 (fun w' => w'.cell? ⟨w.heap.size, 0, none⟩ = some (.bool neg) ∧ w'.cell? ⟨w.heap.size, 1, none⟩ = some s ∧ Pair w' (w.heap.size + 1) 44)
    (first | (go_split_ands; (try dsimp only); (repeat' apply And.intro) <;> first | assumption | exact Pair.drew ‹_› | exact Pair.below ‹_› hb9 | exact Pair.below ‹_› hb8 | exact Pair.below ‹_› hb7 | exact Pair.below ‹_› hb6 | exact Pair.below ‹_› hb5 | exact Pair.below ‹_› hb4 | exact Pair.below ‹_› hb3 | exact Pair.below ‹_› hb2 | exact Pair.below ‹_› hb1 | exact (hb9.cell (by first | omega | (simp; omega) | (simp; done))).trans ‹_› | exact (hb8.cell (by first | omega | (simp; omega) | (simp; done))).trans ‹_› | exact (hb7.cell (by first | omega | (simp; omega) | (simp; done))).trans ‹_› | exact (hb6.cell (by first | omega | (simp; omega) | (simp; done))).trans ‹_› | exact (hb5.cell (by first | omega | (simp; omega) | (simp; done))).trans ‹_› | exact (hb4.cell (by first | omega | (simp; omega) | (simp; done))).trans ‹_› | exact (hb3.cell (by first | omega | (simp; omega) | (simp; done))).trans ‹_› | exact (hb2.cell (by first | omega | (simp; omega) | (simp; done))).trans ‹_› | exact (hb1.cell (by first | omega | (simp; omega) | (simp; done))).trans ‹_› | exact Pair.set1 (Pair.set0 ‹_› _) _ _ _ | exact (cell_stored _ (by first | (dsimp only; omega) | (simp; done) | (simp; omega)) _ _).trans ‹_› | exact Pair.drew (Pair.below ‹_› (below1 _ _)) | exact Pair.below ‹_› (below1 _ _) | exact Pair.far ‹_› (by omega) hb1 | exact Pair.new .. | exact Pair.new1 .. | exact Pair.new2 .. | (go_keep; done)) | (go_keep; done))
    (first
      | (go_at_call 59; refine (own_any s l _ ?_ hl).mono ?_; (repeat (first | exact ha | apply At.drew | apply At.alloc)); rintro e w1 ⟨v1, rfl, ho1, hb1⟩; have hz1 : w.heap.size + 2 ≤ w1.heap.size := (by have := hb1.size; simp at this; omega); have ho1 := ho1.mono (base' := w.heap.size + 2) (by simp))
      | (go_at_call 58; refine (told_own neg _ _ (w.heap.size + 2) _ (by rw [← Hs.out]; exact ho1)).mono ?_; rintro e w2 ⟨v2, rfl, hi2, hb2⟩; obtain ⟨p2, n2, c2, rfl, hi2⟩ := hi2.shape; have hpr := Pair.below (by go_split_ands; assumption) hb2; obtain ⟨_, _, q0, q1, q2, q3⟩ := hpr.cells))
  go_wp2
  exact bodyPost_ret (v := .agg #[.bool (decide (sg neg (val W l) < 0)), .slice p2 n2 c2]) (by simp [results, Tryz.results37, go_sem, q0, q1]) rfl
    ⟨_, rfl, (hi2.stored (by omega) _ _).mono (by omega), Below.stored ((((below1 _ _).alloc (by simp) _).drew.trans (hb1.mono (B' := w.heap.size) (by simp; omega))).trans (hb2.mono (B' := w.heap.size) (by omega))) (by omega) _ _⟩
end Go.Proofs.YtckkpolikdnilaaGreatDoor
/- What stays when a call writes into blocks of a set S alone, and into new ones. -/
namespace Go.Proofs.YtckkpolikdnilaaGreatDoor
open Go.RowKit

/-- of what was there only blocks of S may have turned -/
structure Apart (S : Nat → Prop) (w w' : World) : Prop where
  os : w'.os = w.os
  tape : w'.tape = w.tape
  output : w'.output = w.output
  size : w.heap.size ≤ w'.heap.size
  block : ∀ k, k < w.heap.size → ¬ S k → w'.heap[k]? = w.heap[k]?
theorem Apart.refl (S : Nat → Prop) (w : World) : Apart S w w := ⟨rfl, rfl, rfl, Nat.le_refl _, fun _ _ _ => rfl⟩
theorem Apart.trans {S S' : Nat → Prop} {a b c : World} (h : Apart S a b) (k : Apart S' b c) (hS : ∀ i, S' i → S i ∨ a.heap.size ≤ i) : Apart S a c :=
  ⟨k.os.trans h.os, k.tape.trans h.tape, k.output.trans h.output, Nat.le_trans h.size k.size, fun i hi hn => (k.block i (Nat.lt_of_lt_of_le hi h.size) (fun hs => by
    rcases hS i hs with h1 | h1
    · exact hn h1
    · omega)).trans (h.block i hi hn)⟩
theorem Apart.go {S : Nat → Prop} {a b c : World} (h : Apart S a b) (k : Apart S b c) : Apart S a c := h.trans k (fun _ h => .inl h)
theorem Apart.mono {S S' : Nat → Prop} {w w' : World} (h : Apart S w w') (hS : ∀ i, S i → S' i) : Apart S' w w' :=
  ⟨h.os, h.tape, h.output, h.size, fun i hi hn => h.block i hi (fun hs => hn (hS i hs))⟩
theorem Apart.of_below {S : Nat → Prop} {w w' : World} (h : Below w.heap.size w w') : Apart S w w' := ⟨h.os, h.tape, h.output, h.size, fun i hi _ => h.block i hi⟩
theorem Apart.below {S : Nat → Prop} {w w' : World} {B : Nat} (h : Apart S w w') (hB : B ≤ w.heap.size) (hS : ∀ i, S i → B ≤ i) : Below B w w' :=
  ⟨h.os, h.tape, h.output, h.size, fun i hi => h.block i (by omega) (fun hs => by have := hS i hs; omega)⟩
theorem Apart.setCell {S : Nat → Prop} {a w : World} (h : Apart S a w) {p : Addr} (hp : S p.block) (u : Value) : Apart S a (w.setCell p u) :=
  h.go ⟨rfl, rfl, rfl, by simp [World.setCell], fun k _ hn => Below.heap_setCell _ _ _ _ (fun e => hn (by rw [e]; exact hp))⟩
theorem Apart.grown {S : Nat → Prop} {a w w' : World} {row : Option Nat} (h : Apart S a w) (hg : w.grownBy w' row) (hr : ∀ k, row = some k → S k) : Apart S a w' :=
  h.go ⟨hg.os, hg.tape, hg.output, hg.size, fun k hk hn => hg.block k hk (fun e => hn (hr k e.symm))⟩
theorem Apart.drew {S : Nat → Prop} {a w : World} (h : Apart S a w) : Apart S a w.drew := ⟨h.os, h.tape, h.output, h.size, h.block⟩
theorem Apart.drewN {S : Nat → Prop} {a w : World} (h : Apart S a w) (n : Nat) : Apart S a (w.drewN n) := ⟨h.os, h.tape, h.output, h.size, h.block⟩
theorem Apart.cell {S : Nat → Prop} {w w' : World} (h : Apart S w w') {p : Addr} (hp : p.block < w.heap.size) (hn : ¬ S p.block) : w'.cell? p = w.cell? p :=
  World.cell?_of_block (w := w) (h.block p.block hp hn)

/-- the block of a row, if it has one, is one of S -/
def InS (S : Nat → Prop) (v : Value) : Prop := ∀ k, v.ownBlock = some k → S k
theorem InS.mono {S S' : Nat → Prop} {v : Value} (h : InS S v) (hS : ∀ i, S i → S' i) : InS S' v := fun k hk => hS k (h k hk)
/-- a row stays where its block does -/
theorem row_stays {w w' : World} {base : Nat} {e : TypeId} {size : Nat} {v : Value} {n : Nat} {xs : List Value} (h : w.ownsRow base e size v n xs) (hb : ∀ k, v.ownBlock = some k → w'.heap[k]? = w.heap[k]?) : w'.ownsRow base e size v n xs := by
  obtain ⟨hl, h0 | ⟨g, cap, cur, rfl, hg, hh, r⟩⟩ := h
  · exact ⟨hl, .inl h0⟩
  · exact ⟨hl, .inr ⟨g, cap, cur, rfl, hg, (hb g rfl).trans hh, r⟩⟩
/-- two rows of unlike elements lie in unlike blocks -/
theorem row_apart_type {w : World} {b b' : Nat} {e e' : TypeId} {s s' : Nat} {v v' : Value} {n n' : Nat} {xs xs' : List Value} (h : w.ownsRow b e s v n xs) (h' : w.ownsRow b' e' s' v' n' xs') (hne : e ≠ e') :
    ∀ k, v.ownBlock = some k → v'.ownBlock ≠ some k := by
  intro k hk hk'
  rcases h.2 with ⟨rfl, _⟩ | ⟨g, cap, cur, rfl, _, hg, _⟩
  · cases hk
  · rcases h'.2 with ⟨rfl, _⟩ | ⟨g', cap', cur', rfl, _, hg', _⟩
    · cases hk'
    · cases hk; cases hk'
      rw [hg] at hg'
      cases hg'
      exact hne rfl
theorem row_tag {w : World} {b : Nat} {e : TypeId} {s : Nat} {v : Value} {n : Nat} {xs : List Value} (h : w.ownsRow b e s v n xs) : ∀ k, v.ownBlock = some k → ∃ c, w.heap[k]? = some (.cells c e (0, 0)) := by
  intro k hk
  rcases h.2 with ⟨rfl, _⟩ | ⟨g, cap, cur, rfl, _, hg, _⟩
  · cases hk
  · cases hk; exact ⟨_, hg⟩

end Go.Proofs.YtckkpolikdnilaaGreatDoor
/- pool.ownTerm. -/
namespace Go.Proofs.YtckkpolikdnilaaGreatDoor
open Go.RowKit Big Go.WideMaps

theorem ownsRow_later {w w' : World} {base : Nat} {e : TypeId} {size : Nat} {v : Value} {n : Nat} {xs : List Value} (h : w.ownsRow base e size v n xs) (hb : Below w.heap.size w w') : w'.ownsRow base e size v n xs := by
  obtain ⟨hl, h0 | ⟨g, cap, cur, hv, hg, hh, r⟩⟩ := h
  · exact ⟨hl, .inl h0⟩
  · exact ⟨hl, .inr ⟨g, cap, cur, hv, hg, (hb.block g (Array.getElem?_eq_some_iff.1 hh).1).trans hh, r⟩⟩
theorem ownsRow_shape {w : World} {base : Nat} {e : TypeId} {size : Nat} {v : Value} {n : Nat} {xs : List Value} (h : w.ownsRow base e size v n xs) : ∃ p c, v = .slice p n c := by
  rcases h.2 with ⟨rfl, rfl⟩ | ⟨g, cap, cur, rfl, _⟩
  · exact ⟨_, _, rfl⟩
  · exact ⟨_, _, rfl⟩
theorem ownsRow_mono {w : World} {base base' : Nat} {e : TypeId} {size : Nat} {v : Value} {n : Nat} {xs : List Value} (h : w.ownsRow base e size v n xs) (hb : base' ≤ base) : w.ownsRow base' e size v n xs := by
  obtain ⟨hl, h0 | ⟨g, cap, cur, hv, hg, r⟩⟩ := h
  · exact ⟨hl, .inl h0⟩
  · exact ⟨hl, .inr ⟨g, cap, cur, hv, Nat.le_trans hb hg, r⟩⟩
theorem noWord_set (c : Array Value) (j : Nat) (u : Value) (h : c.all noWord = true) (hu : noWord u = true) : (c.setIfInBounds j u).all noWord = true := by
  rw [Array.all_eq_true] at *
  intro i hi
  rw [Array.getElem_setIfInBounds]
  split
  · exact hu
  · exact h i (by simpa using hi)
/-- two blocks of terms' cells, a row of ints behind them, a number -/
structure Two5 (w : World) (N : Nat) (c1 c2 : Array Value) (va : Value) (l : List Int) (vn : Value) (ln : List Nat) : Prop where
  box : w.heap[N]? = some (.cells c1 71 (0, 0))
  res : w.heap[N + 1]? = some (.cells c2 71 (0, 0))
  n1 : c1.all noWord = true
  n2 : c2.all noWord = true
  row : w.ownsRow (N + 2) 3 1 va l.length (zints l)
  num : Own w (N + 2) 94 .u64 vn ln
theorem Two5.set1 {w : World} {N : Nat} {c1 c2 : Array Value} {va vn : Value} {l : List Int} {ln : List Nat} (h : Two5 w N c1 c2 va l vn ln) (j : Nat) (u : Value) (hn : noWord u = true) : Two5 (w.setCell ⟨N, j, none⟩ u) N (c1.setIfInBounds j u) c2 va l vn ln :=
  ⟨heap_setCell_same w N j _ _ u h.box, (Below.heap_setCell _ _ _ _ (by simp)).trans h.res, noWord_set _ j u h.n1 hn, h.n2, ownsRow_setCell_below h.row (by simp) u, ownsRow_setCell_below h.num (by simp) u⟩
theorem Two5.set2 {w : World} {N : Nat} {c1 c2 : Array Value} {va vn : Value} {l : List Int} {ln : List Nat} (h : Two5 w N c1 c2 va l vn ln) (j : Nat) (u : Value) (hn : noWord u = true) : Two5 (w.setCell ⟨N + 1, j, none⟩ u) N c1 (c2.setIfInBounds j u) va l vn ln :=
  ⟨(Below.heap_setCell _ _ _ _ (by simp)).trans h.box, heap_setCell_same w (N + 1) j _ _ u h.res, h.n1, noWord_set _ j u h.n2 hn, ownsRow_setCell_below h.row (by simp) u, ownsRow_setCell_below h.num (by simp) u⟩

/-- a term of the call's own, its number as it is told -/
def TmTold (B : Nat) (w : World) (v : Value) (t : Tm) : Prop := ∃ pa ca pm nm cm, v = .agg #[.int .i64 t.op, .slice pa t.args.length ca, .bool (decide (t.num < 0)), .slice pm nm cm, .int .i64 t.sym] ∧
  w.ownsRow B 3 1 (.slice pa t.args.length ca) t.args.length (zints t.args) ∧ Own w B 94 .u64 (.slice pm nm cm) (dig W t.num.natAbs)
set_option maxRecDepth 100000 in
set_option maxHeartbeats 3200000 in
theorem ownTerm_any (t : Tm) (v : Value) (w : World) (ht : TmRaw w v t) (hla : t.args.length ≤ 1099511627776) :
    Calls Tryz.prog 100 #[v] w fun e w' => ∃ v', e = .returned v' ∧ TmTold w.heap.size w' v' t ∧ Below w.heap.size w w' := by
  obtain ⟨pa, ca, b, pm, nm, cm, rfl, hl, hm⟩ := ht
  have b1 := below1 w (.cells #[.int .i64 t.op, .slice pa t.args.length ca, .bool b, .slice pm nm cm, .int .i64 t.sym] 71)
  have b2 := below1 (w.alloc (.cells #[.int .i64 t.op, .slice pa t.args.length ca, .bool b, .slice pm nm cm, .int .i64 t.sym] 71)) (.cells #[.int .i64 0, .slice none 0 0, .bool false, .slice none 0 0, .int .i64 0] 71)
  have hbx := (b2.block w.heap.size (by simp)).trans (heap_alloc_new w (.cells #[.int .i64 t.op, .slice pa t.args.length ca, .bool b, .slice pm nm cm, .int .i64 t.sym] 71))
  have hrs := heap_alloc_new (w.alloc (.cells #[.int .i64 t.op, .slice pa t.args.length ca, .bool b, .slice pm nm cm, .int .i64 t.sym] 71)) (.cells #[.int .i64 0, .slice none 0 0, .bool false, .slice none 0 0, .int .i64 0] 71)
  have hs1 := size_alloc w (.cells #[.int .i64 t.op, .slice pa t.args.length ca, .bool b, .slice pm nm cm, .int .i64 t.sym] 71)
  have hs2 := size_alloc (w.alloc (.cells #[.int .i64 t.op, .slice pa t.args.length ca, .bool b, .slice pm nm cm, .int .i64 t.sym] 71)) (.cells #[.int .i64 0, .slice none 0 0, .bool false, .slice none 0 0, .int .i64 0] 71)
  rw [hs1] at hrs hs2
  have bw := bel_go b2 b1
  go_enter Tryz.func100, Tryz.ntmps100
  go_upto_region 1 with fail
  generalize hW : ((w.alloc (.cells #[.int .i64 t.op, .slice pa t.args.length ca, .bool b, .slice pm nm cm, .int .i64 t.sym] 71)).alloc (.cells #[.int .i64 0, .slice none 0 0, .bool false, .slice none 0 0, .int .i64 0] 71)) = W2 at *
  clear hW b1 b2 hs1
  have hl2 := hl.below bw
  have x2 := five_cells hbx
  obtain ⟨x0, x1, -, -, -⟩ := x2
  go_wp2_with (at_builtin; refine wpList_append_zints rfl _ _ 69 rfl elemInts (w.heap.size + 2) _ [] rfl (World.ownsRow_nil _ _ _ _) _ t.args rfl hl2 (by simp [maxLen]; omega) (by simp; omega) (by omega) ?_; intro v1 w1 ho hb1 hz1; obtain ⟨p1, c1, rfl⟩ := ownsRow_shape ho; have hbx1 := (hb1.block w.heap.size (by omega)).trans hbx; have cx1 := five_cells hbx1; obtain ⟨y0, y1, y2, y3, y4⟩ := cx1; have fx1 := frozen_of_row w1 w.heap.size 1 _ _ hbx1)
  have hbx3 := heap_setCell_same w1 w.heap.size 1 _ _ (.slice p1 t.args.length c1) hbx1
  have hrs1 := (hb1.block (w.heap.size + 1) (by omega)).trans hrs
  have hrs3 : (w1.setCell ⟨w.heap.size, 1, none⟩ (.slice p1 t.args.length c1)).heap[w.heap.size + 1]? = _ := (Below.heap_setCell _ _ _ _ (by simp)).trans hrs1
  have ho3 := ownsRow_setCell_below ho (a := ⟨w.heap.size, 1, none⟩) (by simp) (.slice p1 t.args.length c1)
  have bw1 : Below w.heap.size w w1 := bw.trans (hb1.mono (by omega))
  have bw3 := bw1.setCell (p := ⟨w.heap.size, 1, none⟩) (Nat.le_refl _) (.slice p1 t.args.length c1)
  have hz3 : (w1.setCell ⟨w.heap.size, 1, none⟩ (.slice p1 t.args.length c1)).heap.size = w1.heap.size := by simp
  clear y0 y1 y2 y3 y4 fx1 hbx1 hrs1 hb1 ho x0 x1 hbx hrs bw bw1
  generalize hW3 : (w1.setCell ⟨w.heap.size, 1, none⟩ (.slice p1 t.args.length c1)) = W3 at *
  clear hW3
  refine (Norm_own _ t.num _ (hm.below bw3)).mono ?_
  rintro e w4 ⟨v4, rfl, hi, b4⟩
  obtain ⟨p4, n4, c4, rfl, hi4⟩ := hi.shape
  obtain ⟨sx, hsx, ha⟩ := hi4
  cases hsx
  have hbx4 := (b4.block w.heap.size (by omega)).trans hbx3
  have hrs4 := (b4.block (w.heap.size + 1) (by omega)).trans hrs3
  have ho4 := ownsRow_later ho3 b4
  have bw4 := bw3.trans (b4.mono (B' := w.heap.size) (by omega))
  have ha := ha.mono (base' := w.heap.size + 2) (by omega)
  have T4 : Two5 w4 w.heap.size #[.int .i64 t.op, .slice p1 t.args.length c1, .bool b, .slice pm nm cm, .int .i64 t.sym] #[.int .i64 0, .slice none 0 0, .bool false, .slice none 0 0, .int .i64 0] (.slice p1 t.args.length c1) t.args (.slice p4 n4 c4) (dig W t.num.natAbs) := ⟨by simpa using hbx4, hrs4, by simp [noWord], by simp [noWord], by simpa using ho4, ha⟩
  have T5 := (T4.set1 2 (.bool (decide (t.num < 0))) rfl).set1 3 (.slice p4 n4 c4) rfl
  have T6 := (((((T5.set2 0 (.int .i64 t.op) rfl).set2 1 (.slice p1 t.args.length c1) rfl).set2 2 (.bool (decide (t.num < 0))) rfl).set2 3 (.slice p4 n4 c4) rfl).set2 4 (.int .i64 t.sym) rfl)
  have B6 := ((((((bw4.setCell (p := ⟨w.heap.size, 2, none⟩) (Nat.le_refl _) (.bool (decide (t.num < 0)))).setCell (p := ⟨w.heap.size, 3, none⟩) (Nat.le_refl _) (.slice p4 n4 c4)).setCell (p := ⟨w.heap.size + 1, 0, none⟩) (Nat.le_succ _) (.int .i64 t.op)).setCell (p := ⟨w.heap.size + 1, 1, none⟩) (Nat.le_succ _) (.slice p1 t.args.length c1)).setCell (p := ⟨w.heap.size + 1, 2, none⟩) (Nat.le_succ _) (.bool (decide (t.num < 0)))).setCell (p := ⟨w.heap.size + 1, 3, none⟩) (Nat.le_succ _) (.slice p4 n4 c4)).setCell (p := ⟨w.heap.size + 1, 4, none⟩) (Nat.le_succ _) (.int .i64 t.sym)
  have T6 := hid T6; have B6 := hid B6; have T5 := hid T5
  have cx4 := five_cells hbx4
  obtain ⟨y0, y1, y2, y3, y4⟩ := cx4
  have fx2 := frozen_of_row w4 w.heap.size 2 _ _ hbx4
  have fx3 := frozen_of_row w4 w.heap.size 3 _ _ hbx4
  have cr4 := five_cells hrs4
  obtain ⟨z0, z1, z2, z3, z4⟩ := cr4
  have fr0 := frozen_of_row w4 (w.heap.size + 1) 0 _ _ hrs4
  have fr1 := frozen_of_row w4 (w.heap.size + 1) 1 _ _ hrs4
  have fr2 := frozen_of_row w4 (w.heap.size + 1) 2 _ _ hrs4
  have fr3 := frozen_of_row w4 (w.heap.size + 1) 3 _ _ hrs4
  have fr4 := frozen_of_row w4 (w.heap.size + 1) 4 _ _ hrs4
  clear hbx4 hrs4 hbx3 hrs3 ho3 ho4 T4 bw3 bw4 b4 hm hl hl2 ha hi
  go_wp2
  have hr := T6.out.res
  simp at hr
  have hc := five_cells hr
  obtain ⟨r0, r1, r2, r3, r4⟩ := hc
  exact bodyPost_ret (v := .agg #[.int .i64 t.op, .slice p1 t.args.length c1, .bool (decide (t.num < 0)), .slice p4 n4 c4, .int .i64 t.sym]) (by simp [results, Tryz.results100, go_sem, r0, r1, r2, r3, r4]) rfl
    ⟨_, rfl, ⟨p1, c1, p4, n4, c4, rfl, ownsRow_mono T6.out.row (by omega), T6.out.num.mono (by omega)⟩, B6.out⟩
end Go.Proofs.YtckkpolikdnilaaGreatDoor
/-
  DERIVED: THE SHELF's CONTRACTS AT THIS DUMP, IN PLAIN WORDS (tools/lay-plain.mjs out of 'TryzShelf.lean', which tools/lay-shelf.mjs wrote): THE SAME DECLARATIONS UNDER THE SAME NAMES: 'import', 'namespace', 'open', 'def', 'theorem' AND NOTHING ELSE: no command of the shelf's: FOR A HAND-IN. Each laying: the table of numbers ('.._ren') and one theorem, a field a fact of the dump's own or the kernel's comparison; each contract: ONE APPLICATION.
-/
namespace Go.Proofs
open Go.Shelf
def Tryz.lays215_ren : Go.Shelf.Ren := ⟨fun | 215 => 121 | n => n, fun | 3 => 3 | 4 => 4 | n => n, fun | n => n⟩
def Tryz.lays122_ren : Go.Shelf.Ren := ⟨fun | 122 => 108 | 215 => 121 | n => n, fun | 3 => 3 | 4 => 4 | n => n, fun | n => n⟩
def Tryz.lays129_ren : Go.Shelf.Ren := ⟨fun | 129 => 149 | n => n, fun | 53 => 94 | 3 => 3 | 4 => 4 | 46 => 125 | 5 => 5 | 9 => 9 | n => n, fun | n => n⟩
def Tryz.lays317_ren : Go.Shelf.Ren := ⟨fun | 317 => 148 | n => n, fun | 3 => 3 | 46 => 125 | n => n, fun | n => n⟩
def Tryz.lays318_ren : Go.Shelf.Ren := ⟨fun | 318 => 150 | n => n, fun | 3 => 3 | 4 => 4 | n => n, fun | n => n⟩
def Tryz.lays283_ren : Go.Shelf.Ren := ⟨fun | 283 => 142 | n => n, fun | 3 => 3 | 9 => 9 | 4 => 4 | n => n, fun | n => n⟩
def Tryz.laysM284_ren : Go.Shelf.Ren := ⟨fun | 284 => 143 | 129 => 149 | 317 => 148 | 318 => 150 | n => n, fun | 53 => 94 | 3 => 3 | 212 => 180 | 0 => 0 | 4 => 4 | 46 => 125 | 5 => 5 | 9 => 9 | n => n, fun | 17 => 0 | n => n⟩
def Tryz.lays285_ren : Go.Shelf.Ren := ⟨fun | 285 => 144 | n => n, fun | 37 => 50 | 53 => 94 | 3 => 3 | 4 => 4 | 51 => 176 | 9 => 9 | 5 => 5 | 0 => 0 | n => n, fun | n => n⟩
def Tryz.laysM316_ren : Go.Shelf.Ren := ⟨fun | 316 => 123 | n => n, fun | 9 => 9 | 3 => 3 | 4 => 4 | 37 => 50 | 0 => 0 | 127 => 167 | 5 => 5 | n => n, fun | n => n⟩
theorem Tryz.laysM316 : Go.Proofs.LaysM.n316 Tryz.prog Tryz.laysM316_ren := {
  mixed := by kernel_rfl
  f316 := Tryz.func123.trans (congrArg some (by kernel_rfl))
  t0 := Tryz.underlying0
  a0 := Tryz.isAgg0
  z0 := Tryz.sizeOf0
  v0 := Tryz.zeroValue0
  t3 := Tryz.underlying3
  a3 := Tryz.isAgg3
  z3 := Tryz.sizeOf3
  v3 := Tryz.zeroValue3
  t4 := Tryz.underlying4
  a4 := Tryz.isAgg4
  z4 := Tryz.sizeOf4
  v4 := Tryz.zeroValue4
  t9 := Tryz.underlying9
  a9 := Tryz.isAgg9
  z9 := Tryz.sizeOf9
  v9 := Tryz.zeroValue9
  t37 := Tryz.underlying50
  a37 := Tryz.isAgg50
  z37 := Tryz.sizeOf50
  v37 := Tryz.zeroValue50
  t127 := Tryz.underlying167
  a127 := Tryz.isAgg167
  z127 := Tryz.sizeOf167
  v127 := Tryz.zeroValue167
  t5 := Tryz.underlying5
  a5 := Tryz.isAgg5
  z5 := Tryz.sizeOf5
  v5 := Tryz.zeroValue5
  i0 := by kernel_rfl
  i3 := by kernel_rfl
  i4 := by kernel_rfl
  i5 := by kernel_rfl
  i9 := by kernel_rfl
  i37 := by kernel_rfl
  i127 := by kernel_rfl }
open Go.RowKit in
/-- internal/stringslite.Clone (what strings.Clone calls): "Clone returns a fresh copy of s.": THE SAME BYTES. Of what was there nothing has turned (a new row is laid, and frozen, where s is not empty). (LAID: no walk: one application.) -/
theorem Tryz.stringslite_Clone (s : ByteArray) (w : World) (hlim : s.size ≤ 281474976710656) :
    Calls Tryz.prog 123 #[.string s] w fun e w' => e = .returned (.string s) ∧ Below w.heap.size w w' := Any.stringslite_Clone Tryz.laysM316 s w hlim
def Tryz.laysM288_ren : Go.Shelf.Ren := ⟨fun | 288 => 130 | 283 => 142 | 284 => 143 | 285 => 144 | 286 => 145 | 129 => 149 | 317 => 148 | 318 => 150 | 319 => 151 | 320 => 152 | 337 => 153 | 338 => 154 | n => n, fun | 37 => 50 | 53 => 94 | 3 => 3 | 4 => 4 | 9 => 9 | 171 => 171 | 0 => 0 | 173 => 174 | 212 => 180 | 51 => 176 | 5 => 5 | 20 => 20 | 213 => 181 | 46 => 125 | 232 => 184 | 233 => 185 | n => n, fun | 17 => 0 | 18 => 1 | 19 => 2 | n => n⟩
theorem Tryz.laysM288 : Go.Proofs.LaysM.n288 Tryz.prog Tryz.laysM288_ren := {
  mixed := by kernel_rfl
  f129 := Tryz.func149.trans (congrArg some (by kernel_rfl))
  f283 := Tryz.func142.trans (congrArg some (by kernel_rfl))
  f284 := Tryz.func143.trans (congrArg some (by kernel_rfl))
  f285 := Tryz.func144.trans (congrArg some (by kernel_rfl))
  f286 := Tryz.func145.trans (congrArg some (by kernel_rfl))
  f288 := Tryz.func130.trans (congrArg some (by kernel_rfl))
  f317 := Tryz.func148.trans (congrArg some (by kernel_rfl))
  f318 := Tryz.func150.trans (congrArg some (by kernel_rfl))
  f319 := Tryz.func151.trans (congrArg some (by kernel_rfl))
  f320 := Tryz.func152.trans (congrArg some (by kernel_rfl))
  f337 := Tryz.func153.trans (congrArg some (by kernel_rfl))
  f338 := Tryz.func154.trans (congrArg some (by kernel_rfl))
  t0 := Tryz.underlying0
  a0 := Tryz.isAgg0
  z0 := Tryz.sizeOf0
  v0 := Tryz.zeroValue0
  t3 := Tryz.underlying3
  a3 := Tryz.isAgg3
  z3 := Tryz.sizeOf3
  v3 := Tryz.zeroValue3
  t4 := Tryz.underlying4
  a4 := Tryz.isAgg4
  z4 := Tryz.sizeOf4
  v4 := Tryz.zeroValue4
  t5 := Tryz.underlying5
  a5 := Tryz.isAgg5
  z5 := Tryz.sizeOf5
  v5 := Tryz.zeroValue5
  t9 := Tryz.underlying9
  a9 := Tryz.isAgg9
  z9 := Tryz.sizeOf9
  v9 := Tryz.zeroValue9
  t20 := Tryz.underlying20
  a20 := Tryz.isAgg20
  z20 := Tryz.sizeOf20
  v20 := Tryz.zeroValue20
  t37 := Tryz.underlying50
  a37 := Tryz.isAgg50
  z37 := Tryz.sizeOf50
  v37 := Tryz.zeroValue50
  t46 := Tryz.underlying125
  a46 := Tryz.isAgg125
  z46 := Tryz.sizeOf125
  v46 := Tryz.zeroValue125
  t51 := Tryz.underlying176
  a51 := Tryz.isAgg176
  z51 := Tryz.sizeOf176
  v51 := Tryz.zeroValue176
  t53 := Tryz.underlying94
  a53 := Tryz.isAgg94
  z53 := Tryz.sizeOf94
  v53 := Tryz.zeroValue94
  t171 := Tryz.underlying171
  a171 := Tryz.isAgg171
  z171 := Tryz.sizeOf171
  v171 := Tryz.zeroValue171
  t173 := Tryz.underlying174
  a173 := Tryz.isAgg174
  z173 := Tryz.sizeOf174
  v173 := Tryz.zeroValue174
  t212 := Tryz.underlying180
  a212 := Tryz.isAgg180
  z212 := Tryz.sizeOf180
  v212 := Tryz.zeroValue180
  t213 := Tryz.underlying181
  a213 := Tryz.isAgg181
  z213 := Tryz.sizeOf181
  t232 := Tryz.underlying184
  a232 := Tryz.isAgg184
  z232 := Tryz.sizeOf184
  v232 := Tryz.zeroValue184
  t233 := Tryz.underlying185
  a233 := Tryz.isAgg185
  z233 := Tryz.sizeOf185
  v233 := Tryz.zeroValue185
  g17 := by kernel_rfl
  g18 := by kernel_rfl
  g19 := by kernel_rfl
  i0 := by kernel_rfl
  i3 := by kernel_rfl
  i4 := by kernel_rfl
  i5 := by kernel_rfl
  i9 := by kernel_rfl
  i20 := by kernel_rfl
  i37 := by kernel_rfl
  i46 := by kernel_rfl
  i51 := by kernel_rfl
  i53 := by kernel_rfl
  i171 := by kernel_rfl
  i173 := by kernel_rfl
  i212 := by kernel_rfl
  i232 := by kernel_rfl
  i233 := by kernel_rfl
  m17 := by kernel_rfl
  m18 := by kernel_rfl
  m19 := by kernel_rfl }
open Go.RowKit Go.Sort Go.Lib in
/-- internal/strconv.AppendUint(dst, i, 10): the two contracts as one. NO WALK. (LAID: no walk: one application.) -/
theorem Tryz.internal_strconv_AppendUint_10 (B n u : Nat) (hu64 : u < 18446744073709551616) (sv : Value) (xs : List Value) (w : World) (hown : w.ownsRow B 5 1 sv n xs) (hBw : B ≤ w.heap.size) (hlim : n + 20 ≤ 140737488355328) (htab : Lib.TabIs Tryz.prog w "internal/strconv.uint64pow10" .u64 Lib.pow10Tab) :
    Calls Tryz.prog 130 #[sv, .int .u64 u, .int .i64 10] w fun e w' => ∃ v', e = .returned v' ∧ w'.ownsRow B 5 1 v' (n + (Lib.decDigits u).length) (xs ++ Lib.byteCells (Lib.decDigits u)) ∧ Below B w w' ∧ Lib.OthersKept 5 none w w' := Any.internal_strconv_AppendUint_10 Tryz.laysM288 B n u hu64 sv xs w hown hBw hlim htab
def Tryz.laysM249_ren : Go.Shelf.Ren := ⟨fun | 249 => 129 | 288 => 130 | 283 => 142 | 284 => 143 | 285 => 144 | 286 => 145 | 129 => 149 | 317 => 148 | 318 => 150 | 319 => 151 | 320 => 152 | 337 => 153 | 338 => 154 | n => n, fun | 37 => 50 | 2 => 2 | 3 => 3 | 53 => 94 | 4 => 4 | 9 => 9 | 171 => 171 | 0 => 0 | 173 => 174 | 212 => 180 | 51 => 176 | 5 => 5 | 20 => 20 | 213 => 181 | 46 => 125 | 232 => 184 | 233 => 185 | n => n, fun | 17 => 0 | 18 => 1 | 19 => 2 | n => n⟩
def Tryz.laysM176_ren : Go.Shelf.Ren := ⟨fun | 176 => 114 | 249 => 129 | 288 => 130 | 283 => 142 | 284 => 143 | 285 => 144 | 286 => 145 | 129 => 149 | 317 => 148 | 318 => 150 | 319 => 151 | 320 => 152 | 337 => 153 | 338 => 154 | n => n, fun | 37 => 50 | 2 => 2 | 3 => 3 | 53 => 94 | 4 => 4 | 9 => 9 | 171 => 171 | 0 => 0 | 173 => 174 | 212 => 180 | 51 => 176 | 5 => 5 | 20 => 20 | 213 => 181 | 46 => 125 | 232 => 184 | 233 => 185 | n => n, fun | 17 => 0 | 18 => 1 | 19 => 2 | n => n⟩
theorem Tryz.laysM176 : Go.Proofs.LaysM.n176 Tryz.prog Tryz.laysM176_ren := {
  mixed := by kernel_rfl
  f129 := Tryz.func149.trans (congrArg some (by kernel_rfl))
  f176 := Tryz.func114.trans (congrArg some (by kernel_rfl))
  f249 := Tryz.func129.trans (congrArg some (by kernel_rfl))
  f283 := Tryz.func142.trans (congrArg some (by kernel_rfl))
  f284 := Tryz.func143.trans (congrArg some (by kernel_rfl))
  f285 := Tryz.func144.trans (congrArg some (by kernel_rfl))
  f286 := Tryz.func145.trans (congrArg some (by kernel_rfl))
  f288 := Tryz.func130.trans (congrArg some (by kernel_rfl))
  f317 := Tryz.func148.trans (congrArg some (by kernel_rfl))
  f318 := Tryz.func150.trans (congrArg some (by kernel_rfl))
  f319 := Tryz.func151.trans (congrArg some (by kernel_rfl))
  f320 := Tryz.func152.trans (congrArg some (by kernel_rfl))
  f337 := Tryz.func153.trans (congrArg some (by kernel_rfl))
  f338 := Tryz.func154.trans (congrArg some (by kernel_rfl))
  t0 := Tryz.underlying0
  a0 := Tryz.isAgg0
  z0 := Tryz.sizeOf0
  v0 := Tryz.zeroValue0
  t2 := Tryz.underlying2
  a2 := Tryz.isAgg2
  z2 := Tryz.sizeOf2
  v2 := Tryz.zeroValue2
  t3 := Tryz.underlying3
  a3 := Tryz.isAgg3
  z3 := Tryz.sizeOf3
  v3 := Tryz.zeroValue3
  t4 := Tryz.underlying4
  a4 := Tryz.isAgg4
  z4 := Tryz.sizeOf4
  v4 := Tryz.zeroValue4
  t5 := Tryz.underlying5
  a5 := Tryz.isAgg5
  z5 := Tryz.sizeOf5
  v5 := Tryz.zeroValue5
  t9 := Tryz.underlying9
  a9 := Tryz.isAgg9
  z9 := Tryz.sizeOf9
  v9 := Tryz.zeroValue9
  t20 := Tryz.underlying20
  a20 := Tryz.isAgg20
  z20 := Tryz.sizeOf20
  v20 := Tryz.zeroValue20
  t37 := Tryz.underlying50
  a37 := Tryz.isAgg50
  z37 := Tryz.sizeOf50
  v37 := Tryz.zeroValue50
  t46 := Tryz.underlying125
  a46 := Tryz.isAgg125
  z46 := Tryz.sizeOf125
  v46 := Tryz.zeroValue125
  t51 := Tryz.underlying176
  a51 := Tryz.isAgg176
  z51 := Tryz.sizeOf176
  v51 := Tryz.zeroValue176
  t53 := Tryz.underlying94
  a53 := Tryz.isAgg94
  z53 := Tryz.sizeOf94
  v53 := Tryz.zeroValue94
  t171 := Tryz.underlying171
  a171 := Tryz.isAgg171
  z171 := Tryz.sizeOf171
  v171 := Tryz.zeroValue171
  t173 := Tryz.underlying174
  a173 := Tryz.isAgg174
  z173 := Tryz.sizeOf174
  v173 := Tryz.zeroValue174
  t212 := Tryz.underlying180
  a212 := Tryz.isAgg180
  z212 := Tryz.sizeOf180
  v212 := Tryz.zeroValue180
  t213 := Tryz.underlying181
  a213 := Tryz.isAgg181
  z213 := Tryz.sizeOf181
  t232 := Tryz.underlying184
  a232 := Tryz.isAgg184
  z232 := Tryz.sizeOf184
  v232 := Tryz.zeroValue184
  t233 := Tryz.underlying185
  a233 := Tryz.isAgg185
  z233 := Tryz.sizeOf185
  v233 := Tryz.zeroValue185
  g17 := by kernel_rfl
  g18 := by kernel_rfl
  g19 := by kernel_rfl
  i0 := by kernel_rfl
  i2 := by kernel_rfl
  i3 := by kernel_rfl
  i4 := by kernel_rfl
  i5 := by kernel_rfl
  i9 := by kernel_rfl
  i20 := by kernel_rfl
  i37 := by kernel_rfl
  i46 := by kernel_rfl
  i51 := by kernel_rfl
  i53 := by kernel_rfl
  i171 := by kernel_rfl
  i173 := by kernel_rfl
  i212 := by kernel_rfl
  i232 := by kernel_rfl
  i233 := by kernel_rfl
  m17 := by kernel_rfl
  m18 := by kernel_rfl
  m19 := by kernel_rfl }
open Go.RowKit Go.Sort Go.Lib in
/-- strconv.AppendInt: "AppendInt appends the string form of the integer i, as generated by FormatInt, to dst and returns the extended buffer.": AT BASE 10: WHAT COMES BACK OWNS dst's CELLS AND, BEHIND THEM, i's DECIMAL NUMERAL ('Lib.itoa i': at most 20 bytes), for every int64. Below the call's own blocks nothing has turned. (LAID: no walk: one application.) -/
theorem Tryz.strconv_AppendInt_10 (B n : Nat) (i : Int) (h0 : -9223372036854775808 ≤ i) (h1 : i ≤ 9223372036854775807) (sv : Value) (xs : List Value) (w : World) (hown : w.ownsRow B 5 1 sv n xs) (hBw : B ≤ w.heap.size) (hlim : n + 21 ≤ 140737488355328) (htab : Lib.TabBelow Tryz.prog B w "internal/strconv.uint64pow10" .u64 Lib.pow10Tab) :
    Calls Tryz.prog 114 #[sv, .int .i64 i, .int .i64 10] w fun e w' => ∃ v', e = .returned v' ∧ w'.ownsRow B 5 1 v' (n + (Lib.itoa i).length) (xs ++ Lib.byteCells (Lib.itoa i)) ∧ Below B w w' ∧ Lib.OthersKept 5 none w w' := Any.strconv_AppendInt_10 Tryz.laysM176 B n i h0 h1 sv xs w hown hBw hlim htab
end Go.Proofs
/- strconv.AppendUint at base 10 (the public one), out of the shelf's inner one. -/
namespace Go.Proofs.YtckkpolikdnilaaGreatDoor
open Go.RowKit Big Go.WideMaps

set_option maxRecDepth 100000 in
set_option maxHeartbeats 1600000 in
theorem AppendUint_any (B n u : Nat) (hu : u < W) (sv : Value) (xs : List Value) (w : World) (hown : w.ownsRow B 5 1 sv n xs) (hBw : B ≤ w.heap.size) (hlim : n + 20 ≤ 140737488355328)
    (htab : Lib.TabIs Tryz.prog w "internal/strconv.uint64pow10" .u64 Lib.pow10Tab) :
    Calls Tryz.prog 115 #[sv, .int .u64 (u : Nat), .int .i64 10] w fun e w' => ∃ v', e = .returned v' ∧ w'.ownsRow B 5 1 v' (n + (Lib.decDigits u).length) (xs ++ Lib.byteCells (Lib.decDigits u)) ∧ Below B w w' := by
  have hc := Tryz.internal_strconv_AppendUint_10 B n u hu sv xs w hown hBw hlim htab
  have Hc := hid hc
  clear hc htab hown
  go_enter Tryz.func115, Tryz.ntmps115
  go_wp2_with fail
  refine Hc.out.mono ?_
  rintro e w1 ⟨v1, rfl, h1, h2, -⟩
  go_wp2
  go_ret
  exact ⟨v1, rfl, h1, h2⟩
theorem AppendInt_any (B n : Nat) (i : Int) (h0 : -9223372036854775808 ≤ i) (h1 : i ≤ 9223372036854775807) (sv : Value) (xs : List Value) (w : World) (hown : w.ownsRow B 5 1 sv n xs) (hBw : B ≤ w.heap.size) (hlim : n + 21 ≤ 140737488355328)
    (htab : Lib.TabBelow Tryz.prog B w "internal/strconv.uint64pow10" .u64 Lib.pow10Tab) :
    Calls Tryz.prog 114 #[sv, .int .i64 i, .int .i64 10] w fun e w' => ∃ v', e = .returned v' ∧ w'.ownsRow B 5 1 v' (n + (Lib.itoa i).length) (xs ++ Lib.byteCells (Lib.itoa i)) ∧ Below B w w' :=
  (Tryz.strconv_AppendInt_10 B n i h0 h1 sv xs w hown hBw hlim htab).mono fun _ _ h => by
    obtain ⟨v', e, o, b, -⟩ := h
    exact ⟨v', e, o, b⟩
end Go.Proofs.YtckkpolikdnilaaGreatDoor
/- The calls on a pool that is none; Sort. -/
namespace Go.Proofs.YtckkpolikdnilaaGreatDoor
open Go.RowKit Big Go.WideMaps

def RTwo (a b : Int) (w : World) (e : Ending) (w' : World) : Prop := e = .returned (.tuple #[.int .i64 a, .int .i64 b]) ∧ Below w.heap.size w w'
end Go.Proofs.YtckkpolikdnilaaGreatDoor
