/- Texts put together: Big, PlMath, VlMath, TbMath, TbPure, TbLaws, Mem, Trim, SmallFns, Own, Plus, Minus, Compare, Mem2, WholeFns, WholeAdd, WholeOwn, Apart, Ls, TbMem, Inv, Facts, Lens, Step, Shelf, TbText0, TbText, TbFirst, TbEach, WholeCmp, TbClash, RefTrim, Digits, From, RefWhole, RefPlus, RefLess. -/
import Derived.Lib.ItoaNum
import Derived.Maps.OwnSet
import Derived.Maps.Views
import Derived.Test.YtlffiomlpkopbaaDoorProg
import Derived.WalkKit
import Derived.WalkSpells
import Derived.Deep.QuietTactic
import Derived.BigQuiet
import Derived.WalkSmall
import Derived.Laws.AppendOwnNone
import Derived.Shelf.Spec.BitsCarry
import Derived.Deep.RegionHeld3
import Derived.Maps.AppendAt
import Derived.Shelf.Small.Wraps
import Derived.Shelf.Strconv.Itoa0
import Derived.Shelf.Strconv.Itoa1
import Derived.Shelf.LaysM
import Derived.Shelf.Strconv.Itoa2
import Derived.Shelf.Strconv.AppendUint10
import Derived.Shelf.Strconv.AppendInt10
import Derived.Shelf.Strconv.AppendIntPublic10
import Derived.Lib.OthersKept
import Derived.Deep.DeepCutAuto
import Derived.Laws.EntriesVeiled
/- Plain mathematics of digit lists: the value of a list of digits, its canonical form, and how sums, differences, products and quotients of digits carry. No program is named here. -/
namespace Go.Proofs.YtlffiomlpkopbaaDoor.Big

/-- the value of digits, the lowest first -/
def val (B : Nat) : List Nat → Nat
  | [] => 0
  | x :: xs => x + B * val B xs

/-- all digits are below the base -/
def Small (B : Nat) (l : List Nat) : Prop := ∀ x ∈ l, x < B

/-- the digits of a number, with fuel -/
def dg (B : Nat) : Nat → Nat → List Nat
  | 0, _ => []
  | f + 1, n => if n = 0 then [] else (n % B) :: dg B f (n / B)
/-- the digits of a number, none of them above the highest that isn't 0 -/
def dig (B n : Nat) : List Nat := dg B n n
/-- how many digits -/
def sz (B n : Nat) : Nat := (dig B n).length

theorem val_cons (B x : Nat) (l : List Nat) : val B (x :: l) = x + B * val B l := rfl
theorem val_append (B : Nat) (l m : List Nat) : val B (l ++ m) = val B l + B ^ l.length * val B m := by
  induction l with
  | nil => simp [val]
  | cons x l ih => simp only [List.cons_append, val, ih, List.length_cons, Nat.pow_succ]; grind
theorem val_snoc (B : Nat) (l : List Nat) (x : Nat) : val B (l ++ [x]) = val B l + B ^ l.length * x := by
  rw [val_append]; simp [val]
theorem small_nil (B : Nat) : Small B [] := by intro x hx; cases hx
theorem small_cons {B x : Nat} {l : List Nat} (h : x < B) (hl : Small B l) : Small B (x :: l) := by
  intro y hy; cases hy with
  | head => exact h
  | tail _ hy => exact hl y hy
theorem small_append {B : Nat} {l m : List Nat} (hl : Small B l) (hm : Small B m) : Small B (l ++ m) := by
  intro y hy; rcases List.mem_append.1 hy with h | h
  · exact hl y h
  · exact hm y h
theorem small_snoc {B : Nat} {l : List Nat} {x : Nat} (hl : Small B l) (h : x < B) : Small B (l ++ [x]) :=
  small_append hl (small_cons h (small_nil B))
theorem small_take {B : Nat} {l : List Nat} (h : Small B l) (k : Nat) : Small B (l.take k) := fun x hx => h x (List.mem_of_mem_take hx)
theorem small_get {B : Nat} {l : List Nat} (h : Small B l) (i : Nat) (hi : i < l.length) : l[i] < B := h _ (List.getElem_mem hi)
theorem small_getD {B : Nat} {l : List Nat} (h : Small B l) (hB : 0 < B) (i : Nat) : l[i]?.getD 0 < B := by
  cases hx : l[i]? with
  | none => simpa using hB
  | some x => simpa using h x (List.mem_of_getElem? hx)

theorem val_lt {B : Nat} (hB : 0 < B) : ∀ {l : List Nat}, Small B l → val B l < B ^ l.length
  | [], _ => by simp [val]
  | x :: l, h => by
    have h1 : x < B := h x (by simp)
    have h2 := val_lt hB (l := l) fun y hy => h y (by simp [hy])
    simp only [val, List.length_cons, Nat.pow_succ]
    have : B * val B l + B ≤ B ^ l.length * B := by
      rw [Nat.mul_comm (B ^ l.length)]; calc B * val B l + B = B * (val B l + 1) := by grind
        _ ≤ B * B ^ l.length := Nat.mul_le_mul_left _ h2
    omega
theorem val_take_drop (B : Nat) (l : List Nat) (k : Nat) (hk : k ≤ l.length) : val B l = val B (l.take k) + B ^ k * val B (l.drop k) := by
  conv => lhs; rw [← List.take_append_drop k l]
  rw [val_append, List.length_take, Nat.min_eq_left hk]
theorem take_succ' {α : Type} (l : List α) (k : Nat) (h : k < l.length) : l.take (k + 1) = l.take k ++ [l[k]] := by
  rw [List.take_succ_eq_append_getElem h]
theorem val_take_succ (B : Nat) (l : List Nat) (k : Nat) (h : k < l.length) : val B (l.take (k + 1)) = val B (l.take k) + B ^ k * l[k] := by
  rw [take_succ' l k h, val_snoc, List.length_take, Nat.min_eq_left (by omega)]
theorem val_take_ge (B : Nat) (l : List Nat) (k : Nat) (h : l.length ≤ k) : val B (l.take k) = val B l := by rw [List.take_of_length_le h]
/-- one digit more, which may lie beyond the end -/
theorem val_take_getD (B : Nat) (l : List Nat) (k : Nat) : val B (l.take (k + 1)) = val B (l.take k) + B ^ k * l[k]?.getD 0 := by
  by_cases h : k < l.length
  · rw [val_take_succ B l k h]; simp [h]
  · rw [val_take_ge _ _ _ (by omega), val_take_ge _ _ _ (by omega)]; simp [List.getElem?_eq_none (Nat.le_of_not_lt h)]
theorem val_drop_succ (B : Nat) (l : List Nat) (k : Nat) (h : k < l.length) : val B (l.drop k) = l[k] + B * val B (l.drop (k + 1)) := by
  rw [List.drop_eq_getElem_cons h, val_cons]

theorem dg_fuel {B : Nat} (hB : 2 ≤ B) : ∀ (f g n : Nat), n ≤ f → n ≤ g → dg B f n = dg B g n
  | 0, 0, n, _, _ => rfl
  | 0, g + 1, n, h, _ => by have : n = 0 := by omega
                            subst this; simp [dg]
  | f + 1, 0, n, _, h => by have : n = 0 := by omega
                            subst this; simp [dg]
  | f + 1, g + 1, n, h1, h2 => by
    simp only [dg]
    by_cases h : n = 0
    · simp [h]
    · have hd : n / B < n := Nat.div_lt_self (by omega) (by omega)
      simp only [h, if_false]
      rw [dg_fuel hB f g (n / B) (by omega) (by omega)]
theorem dig_zero (B : Nat) : dig B 0 = [] := rfl
theorem dig_pos {B : Nat} (hB : 2 ≤ B) {n : Nat} (h : 0 < n) : dig B n = (n % B) :: dig B (n / B) := by
  have hd : n / B < n := Nat.div_lt_self h (by omega)
  obtain ⟨m, rfl⟩ : ∃ m, n = m + 1 := ⟨n - 1, by omega⟩
  show dg B (m + 1) (m + 1) = _
  simp only [dg]
  rw [if_neg (by omega), dg_fuel hB m ((m + 1) / B) _ (by omega) (Nat.le_refl _)]
  rfl
theorem dig_one {B : Nat} (hB : 2 ≤ B) {n : Nat} (h : 0 < n) (hn : n < B) : dig B n = [n] := by
  rw [dig_pos hB h, Nat.mod_eq_of_lt hn, Nat.div_eq_of_lt hn, dig_zero]
theorem strong {P : Nat → Prop} (h : ∀ n, (∀ m, m < n → P m) → P n) (n : Nat) : P n := Nat.strongRecOn n h
theorem val_dig {B : Nat} (hB : 2 ≤ B) (n : Nat) : val B (dig B n) = n := by
  induction n using strong with
  | h n ih =>
    by_cases h : n = 0
    · subst h; rfl
    · have hd : n / B < n := Nat.div_lt_self (by omega) (by omega)
      rw [dig_pos hB (by omega), val_cons, ih _ hd]
      exact Nat.mod_add_div n B
theorem small_dig {B : Nat} (hB : 2 ≤ B) (n : Nat) : Small B (dig B n) := by
  induction n using strong with
  | h n ih =>
    by_cases h : n = 0
    · subst h; exact small_nil B
    · have hd : n / B < n := Nat.div_lt_self (by omega) (by omega)
      rw [dig_pos hB (by omega)]
      exact small_cons (Nat.mod_lt _ (by omega)) (ih _ hd)
/-- a list without a nought at its end is its number's digits -/
theorem canon_last {B : Nat} (hB : 2 ≤ B) : ∀ {l : List Nat}, Small B l → (∀ h : l ≠ [], l.getLast h ≠ 0) → l = dig B (val B l)
  | [], _, _ => rfl
  | x :: l, hs, hl => by
    have hx : x < B := hs x (by simp)
    have hs' : Small B l := fun y hy => hs y (by simp [hy])
    have hl' : ∀ h : l ≠ [], l.getLast h ≠ 0 := by
      intro h; have := hl (by simp); rwa [List.getLast_cons h] at this
    have ih := canon_last hB hs' hl'
    have hpos : 0 < val B (x :: l) := by
      rw [val_cons]
      by_cases hln : l = []
      · subst hln; have := hl (by simp); simp at this; omega
      · have : val B l ≠ 0 := by
          intro h0; rw [h0] at ih; exact hln (by rw [ih]; rfl)
        have : 0 < B * val B l := Nat.mul_pos (by omega) (by omega)
        omega
    rw [dig_pos hB hpos, val_cons, Nat.add_mul_mod_self_left, Nat.mod_eq_of_lt hx, Nat.add_mul_div_left _ _ (by omega : 0 < B), Nat.div_eq_of_lt hx, Nat.zero_add, ← ih]
theorem canon {B : Nat} (hB : 2 ≤ B) {l : List Nat} (hs : Small B l) (h : l = [] ∨ B ^ (l.length - 1) ≤ val B l) : l = dig B (val B l) := by
  refine canon_last hB hs fun hne h0 => ?_
  rcases h with h | h
  · exact hne h
  · have e : l = l.dropLast ++ [0] := by rw [← h0]; exact (List.dropLast_concat_getLast hne).symm
    have hlt := val_lt (by omega : 0 < B) (l := l.dropLast) (fun y hy => hs y (List.dropLast_subset l hy))
    have e2 : val B l = val B l.dropLast := by rw [e, val_snoc]; simp
    rw [List.length_dropLast] at hlt
    omega
/-- equal values, equal digits -/
theorem dig_inj {B : Nat} (hB : 2 ≤ B) {n m : Nat} (h : dig B n = dig B m) : n = m := by
  rw [← val_dig hB n, ← val_dig hB m, h]
theorem dig_eq_nil {B : Nat} (hB : 2 ≤ B) {n : Nat} : dig B n = [] ↔ n = 0 :=
  ⟨fun h => by by_cases h0 : n = 0; exact h0; rw [dig_pos hB (by omega)] at h; simp at h, fun h => by subst h; rfl⟩

theorem sz_zero (B : Nat) : sz B 0 = 0 := rfl
theorem sz_pos {B : Nat} (hB : 2 ≤ B) {n : Nat} (h : 0 < n) : sz B n = sz B (n / B) + 1 := by unfold sz; rw [dig_pos hB h]; simp
theorem sz_eq_zero {B : Nat} (hB : 2 ≤ B) {n : Nat} : sz B n = 0 ↔ n = 0 := by
  unfold sz; rw [List.length_eq_zero_iff]; exact dig_eq_nil hB
theorem lt_pow_sz {B : Nat} (hB : 2 ≤ B) (n : Nat) : n < B ^ sz B n := by
  have := val_lt (by omega : 0 < B) (small_dig hB n); rwa [val_dig hB] at this
theorem pow_sz_le {B : Nat} (hB : 2 ≤ B) {n : Nat} (h : 0 < n) : B ^ (sz B n - 1) ≤ n := by
  induction n using strong with
  | h n ih =>
    by_cases h1 : n / B = 0
    · rw [sz_pos hB h, h1]; simp [sz_zero]; omega
    · have hd : n / B < n := Nat.div_lt_self (by omega) (by omega)
      have := ih _ hd (Nat.pos_of_ne_zero h1)
      have hsz : sz B (n / B) ≠ 0 := fun e => h1 ((sz_eq_zero hB).1 e)
      rw [sz_pos hB h, Nat.add_sub_cancel, show sz B (n / B) = sz B (n / B) - 1 + 1 by omega, Nat.pow_succ]
      calc B ^ (sz B (n / B) - 1) * B ≤ n / B * B := Nat.mul_le_mul_right _ this
        _ ≤ n := Nat.div_mul_le_self n B
theorem sz_le_of_lt {B : Nat} (hB : 2 ≤ B) {n k : Nat} (h : n < B ^ k) : sz B n ≤ k := by
  by_cases h0 : n = 0
  · subst h0; rw [sz_zero]; omega
  · have h1 := pow_sz_le hB (n := n) (by omega)
    have h2 : B ^ (sz B n - 1) < B ^ k := Nat.lt_of_le_of_lt h1 h
    have := (Nat.pow_lt_pow_iff_right (a := B) (by omega)).1 h2
    omega
theorem sz_mono {B : Nat} (hB : 2 ≤ B) {n m : Nat} (h : n ≤ m) : sz B n ≤ sz B m :=
  sz_le_of_lt hB (Nat.lt_of_le_of_lt h (lt_pow_sz hB m))
theorem sz_val {B : Nat} (hB : 2 ≤ B) {l : List Nat} (hs : Small B l) : sz B (val B l) ≤ l.length :=
  sz_le_of_lt hB (val_lt (by omega) hs)
theorem sz_add {B : Nat} (hB : 2 ≤ B) {n m k : Nat} (hn : sz B n ≤ k) (hm : sz B m ≤ k) : sz B (n + m) ≤ k + 1 := by
  refine sz_le_of_lt hB ?_
  have h1 := Nat.lt_of_lt_of_le (lt_pow_sz hB n) (Nat.pow_le_pow_right (by omega : 0 < B) hn)
  have h2 := Nat.lt_of_lt_of_le (lt_pow_sz hB m) (Nat.pow_le_pow_right (by omega : 0 < B) hm)
  rw [Nat.pow_succ]
  have : B ^ k * 2 ≤ B ^ k * B := Nat.mul_le_mul_left _ hB
  omega

/-- order by size: more digits, a greater number -/
theorem lt_of_sz_lt {B : Nat} (hB : 2 ≤ B) {n m : Nat} (h : sz B n < sz B m) : n < m := by
  rcases Nat.lt_or_ge n m with h1 | h1
  · exact h1
  · exact absurd (sz_mono hB h1) (by omega)
/-- what is greater in the highest digit at which two lists part is greater -/
theorem val_lt_of_part {B : Nat} {l m : List Nat} {i : Nat} (hl : Small B l) (hi : i < l.length) (him : i < m.length)
    (hd : l.drop (i + 1) = m.drop (i + 1)) (h : l[i] < m[i]) : val B l < val B m := by
  have hB : 0 < B := Nat.lt_of_le_of_lt (Nat.zero_le _) (small_get hl i hi)
  rw [val_take_drop B l i (by omega), val_take_drop B m i (by omega), val_drop_succ B l i hi, val_drop_succ B m i him, hd]
  have hlt := val_lt hB (small_take hl i)
  rw [List.length_take, Nat.min_eq_left (by omega)] at hlt
  have : B ^ i * (l[i] + 1) ≤ B ^ i * m[i] := Nat.mul_le_mul_left _ h
  grind

/-- the strokes of a sum -/
theorem add_step {B x y c s c' P v va vb : Nat} (h : x + y + c = s + B * c') (hv : v + c * P = va + vb) : (v + P * s) + c' * (P * B) = (va + P * x) + (vb + P * y) := by grind
/-- the strokes of a difference -/
theorem sub_step {B x y c s c' P v va vb : Nat} (h : x + B * c' = s + y + c) (hv : v + vb = va + c * P) : (v + P * s) + (vb + P * y) = (va + P * x) + c' * (P * B) := by grind

/-- without the noughts at the end -/
def strip : List Nat → List Nat
  | [] => []
  | x :: l => match strip l with
    | [] => if x = 0 then [] else [x]
    | y :: m => x :: y :: m
theorem strip_dig {B : Nat} (hB : 2 ≤ B) : ∀ {l : List Nat}, Small B l → strip l = dig B (val B l)
  | [], _ => rfl
  | x :: l, hs => by
    have hx : x < B := hs x (by simp)
    have ih := strip_dig hB (l := l) fun y hy => hs y (by simp [hy])
    simp only [strip]
    by_cases h0 : val B l = 0
    · rw [ih, h0, dig_zero]
      simp only [val_cons, h0, Nat.mul_zero, Nat.add_zero]
      by_cases hx0 : x = 0
      · subst hx0; rfl
      · simp only [if_neg hx0]; rw [dig_one hB (by omega) hx]
    · have hne : dig B (val B l) ≠ [] := fun e => h0 ((dig_eq_nil hB).1 e)
      have hpos : 0 < val B (x :: l) := by
        rw [val_cons]; have : 0 < B * val B l := Nat.mul_pos (by omega) (by omega)
        omega
      rw [dig_pos hB hpos, val_cons, Nat.add_mul_mod_self_left, Nat.mod_eq_of_lt hx, Nat.add_mul_div_left _ _ (by omega : 0 < B), Nat.div_eq_of_lt hx, Nat.zero_add, ih]
      cases hh : dig B (val B l) with
      | nil => exact absurd hh hne
      | cons y m => rfl
theorem strip_snoc_zero (l : List Nat) : strip (l ++ [0]) = strip l := by
  induction l with
  | nil => rfl
  | cons x l ih => simp only [List.cons_append, strip, ih]
theorem strip_snoc {l : List Nat} {x : Nat} (h : x ≠ 0) : strip (l ++ [x]) = l ++ [x] := by
  induction l with
  | nil => simp [strip, h]
  | cons y l ih =>
    simp only [List.cons_append, strip, ih]
    cases l <;> rfl
/-- what trim takes off, one at a time -/
theorem strip_take {l : List Nat} {k : Nat} (hk : k < l.length) (h : l[k] = 0) : strip (l.take (k + 1)) = strip (l.take k) := by
  rw [take_succ' l k hk, h, strip_snoc_zero]
theorem strip_take_ne {l : List Nat} {k : Nat} (hk : k < l.length) (h : l[k] ≠ 0) : strip (l.take (k + 1)) = l.take (k + 1) := by
  rw [take_succ' l k hk, strip_snoc h]
theorem strip_length (l : List Nat) : (strip l).length ≤ l.length := by
  induction l with
  | nil => simp [strip]
  | cons x l ih =>
    simp only [strip]
    cases h : strip l with
    | nil => by_cases hx : x = 0 <;> simp [hx]
    | cons y m => rw [h] at ih; simp at ih ⊢; omega

/-- the two bases of the texts: words of 64 bits, halves of 32, digits of 16 -/
def W : Nat := 18446744073709551616
def H : Nat := 4294967296
def D : Nat := 65536
theorem W2 : 2 ≤ W := by decide
theorem H2 : 2 ≤ H := by decide
theorem D2 : 2 ≤ D := by decide

end Go.Proofs.YtlffiomlpkopbaaDoor.Big
/- Layer 4 in plain words: rules, terms, what may be wrong with one, the text of a term's fields (two terms with one text are one), a map from texts to numbers. -/
namespace Go.Proofs.YtlffiomlpkopbaaDoor
open Go.Proofs.YtlffiomlpkopbaaDoor.Big

structure Sy where
  name : List UInt8
  arity : Int
  sort : Int
/-- a term: its number as a number, whatever its form -/
structure Tm where
  op : Int
  args : List Int
  num : Int
  sym : Int
instance : DecidableEq Tm := fun a b => decidable_of_iff (a.op = b.op ∧ a.args = b.args ∧ a.num = b.num ∧ a.sym = b.sym) (by cases a; cases b; simp)
structure Ru where
  least : Int
  most : Int
  part : Int
  sort : Int
  num : Bool
  sym : Bool
structure Po where
  syms : List Sy
  terms : List Tm
  sorts : List Int

def plRule (op : Int) : Option Ru :=
  if op = 1 ∨ op = 2 then some ⟨0, 0, 0, 1, false, false⟩
  else if op = 3 then some ⟨0, 0, 0, 2, true, false⟩
  else if op = 4 then some ⟨0, 0, 2, 0, false, true⟩
  else if op = 5 then some ⟨1, 1, 1, 1, false, false⟩
  else if op = 6 ∨ op = 7 then some ⟨2, 64, 1, 1, false, false⟩
  else if op = 8 then some ⟨2, 2, 1, 1, false, false⟩
  else if op = 9 then some ⟨3, 3, 1, 0, false, false⟩
  else if op = 10 ∨ op = 11 then some ⟨2, 2, 2, 1, false, false⟩
  else if op = 12 then some ⟨2, 64, 2, 2, false, false⟩
  else if op = 13 then some ⟨1, 1, 2, 2, true, false⟩
  else none
def plRu (op : Int) : Ru := (plRule op).getD ⟨0, 0, 0, 0, false, false⟩
def plBadSym (s : Sy) : Bool := s.name.isEmpty || decide (s.arity < 0) || decide (4 < s.arity) || (s.sort != 1 && s.sort != 2)
def plBadForm (t : Tm) : Bool := (plRule t.op).isNone || (!(plRu t.op).num && t.num != 0) || (!(plRu t.op).sym && t.sym != 0)
def plNoSym (p : Po) (t : Tm) : Bool := t.op == 4 && (decide (t.sym < 0) || decide ((p.syms.length : Int) ≤ t.sym))
def plNoTerm (p : Po) (n : Int) : Bool := decide (n < 0) || decide ((p.terms.length : Int) ≤ n)
def plNoPart (p : Po) (t : Tm) : Bool := t.args.any (plNoTerm p)
def plSymAt (p : Po) (k : Int) : Sy := p.syms[k.toNat]?.getD ⟨[], 0, 0⟩
def plSortAt (p : Po) (k : Int) : Int := p.sorts[k.toNat]?.getD 0
def plBadCount (p : Po) (t : Tm) : Bool := if t.op = 4 then (t.args.length : Int) != (plSymAt p t.sym).arity else decide ((t.args.length : Int) < (plRu t.op).least) || decide ((plRu t.op).most < t.args.length)
def plPart (p : Po) (t : Tm) (i : Nat) : Int := if t.op = 9 ∧ 0 < i then plSortAt p (t.args[1]?.getD 0) else (plRu t.op).part
def plBadSort (p : Po) (t : Tm) : Bool := t.args.zipIdx.any fun a => plSortAt p a.1 != plPart p t a.2
def plSort (p : Po) (t : Tm) : Int := if t.op = 4 then (plSymAt p t.sym).sort else if t.op = 9 then plSortAt p (t.args[1]?.getD 0) else (plRu t.op).sort
def plWrong (p : Po) (t : Tm) : Int := if plBadForm t then 6 else if plNoSym p t then 7 else if plNoPart p t then 1 else if plBadCount p t then 9 else if plBadSort p t then 8 else 0
def plFind (l : List Tm) (t : Tm) : Option Nat := l.findIdx? (fun x => decide (x = t))
def plMake (p : Po) (t : Tm) : Po × Int × Int :=
  if plWrong p t ≠ 0 then (p, 0, plWrong p t) else
  match plFind p.terms t with
  | some k => (p, k, 0)
  | none => if p.terms.length = 4096 then (p, 0, 11) else (⟨p.syms, p.terms ++ [t], p.sorts ++ [plSort p t]⟩, p.terms.length, 0)
def plDeclare (p : Po) (s : Sy) : Po × Int × Int :=
  if plBadSym s then (p, 0, 6) else if p.syms.any (fun x => x.name == s.name) then (p, 0, 7) else if p.syms.length = 256 then (p, 0, 11) else (⟨p.syms ++ [s], p.terms, p.sorts⟩, p.syms.length, 0)

/-! ### the text of a term's fields -/
def plFields (t : Tm) : List Int := [t.op, t.sym, t.num.sign, ((sz W t.num.natAbs : Nat) : Int)] ++ t.args
def spaced (l : List (List UInt8)) : List UInt8 := l.flatMap fun x => 32 :: x
def plTokens (t : Tm) : List (List UInt8) := (plFields t).map Lib.itoa ++ (dig W t.num.natAbs).map Lib.decDigits
def plText (t : Tm) : List UInt8 := spaced (plTokens t)

theorem dec_ne (u : Nat) : ∀ c ∈ Lib.decDigits u, 48 ≤ c.toNat ∧ c.toNat ≤ 57 := by
  induction u using Nat.strongRecOn with
  | _ u ih =>
    intro c hc
    rw [Lib.decDigits] at hc
    split at hc
    · simp at hc; subst hc; simp [UInt8.toNat_ofNat']; omega
    · rcases List.mem_append.1 hc with h | h
      · exact ih _ (by omega) c h
      · simp at h; subst h; simp [UInt8.toNat_ofNat']; omega
theorem dec_none (u : Nat) : Lib.decDigits u ≠ [] := by
  intro h
  have h1 := Lib.decDigits_length u
  have h2 := Lib.nDigits_pos u
  rw [h] at h1
  simp at h1
  omega
theorem ofNat_inj {a b : Nat} (ha : a < 10) (hb : b < 10) (h : UInt8.ofNat (48 + a) = UInt8.ofNat (48 + b)) : a = b := by
  have := congrArg UInt8.toNat h
  simp [UInt8.toNat_ofNat'] at this
  omega
theorem dec_inj : ∀ (u v : Nat), Lib.decDigits u = Lib.decDigits v → u = v := by
  intro u
  induction u using Nat.strongRecOn with
  | _ u ih =>
    intro v h
    rw [Lib.decDigits, Lib.decDigits.eq_def v] at h
    split at h <;> split at h
    · exact ofNat_inj (by omega) (by omega) (List.cons.inj h).1
    · have := congrArg List.length h
      have h2 := List.length_pos_iff.2 (dec_none (v / 10))
      rw [List.length_append] at this
      simp only [List.length_singleton] at this
      omega
    · have := congrArg List.length h
      have h2 := List.length_pos_iff.2 (dec_none (u / 10))
      rw [List.length_append] at this
      simp only [List.length_singleton] at this
      omega
    · have h2 := List.append_inj' h rfl
      have h3 := ih _ (by omega) _ h2.1
      have h5 := ofNat_inj (by omega) (by omega) (List.cons.inj h2.2).1
      omega
theorem itoa_signs (i : Int) : ∀ c ∈ Lib.itoa i, c ≠ 32 := by
  intro c hc e
  subst e
  unfold Lib.itoa at hc
  split at hc
  · rcases List.mem_cons.1 hc with h | h
    · revert h; decide
    · have := dec_ne _ _ h; revert this; decide
  · have := dec_ne _ _ hc; revert this; decide
theorem dec_signs (u : Nat) : ∀ c ∈ Lib.decDigits u, c ≠ 32 := by
  intro c hc e
  subst e
  have := dec_ne _ _ hc; revert this; decide
theorem dec_minus (u : Nat) (l : List UInt8) : Lib.decDigits u ≠ 45 :: l := by
  intro h
  have := dec_ne u 45 (by rw [h]; simp)
  revert this; decide
theorem itoa_inj (i j : Int) (h : Lib.itoa i = Lib.itoa j) : i = j := by
  unfold Lib.itoa at h
  split at h <;> split at h
  · have := dec_inj _ _ (List.cons.inj h).2; omega
  · exact absurd h.symm (dec_minus _ _)
  · exact absurd h (dec_minus _ _)
  · have := dec_inj _ _ h; omega
theorem spaced_inj : ∀ (l m : List (List UInt8)), (∀ x ∈ l, ∀ c ∈ x, c ≠ 32) → (∀ x ∈ m, ∀ c ∈ x, c ≠ 32) → spaced l = spaced m → l = m
  | [], [], _, _, _ => rfl
  | [], y :: m, _, _, h => by simp [spaced] at h
  | x :: l, [], _, _, h => by simp [spaced] at h
  | x :: l, y :: m, hl, hm, h => by
    have hx := hl x (by simp)
    have hy := hm y (by simp)
    simp only [spaced, List.flatMap_cons, List.cons_append, List.cons.injEq, true_and] at h
    have key : ∀ (a b s t : List UInt8), (∀ c ∈ a, c ≠ 32) → (∀ c ∈ b, c ≠ 32) → (∀ c r, s = c :: r → c = 32) → (∀ c r, t = c :: r → c = 32) → a ++ s = b ++ t → a = b ∧ s = t := by
      intro a
      induction a with
      | nil =>
        intro b s t _ hb hs ht e
        cases b with
        | nil => exact ⟨rfl, e⟩
        | cons c b => exact absurd (hs c (b ++ t) e) (hb c (by simp))
      | cons c a ih =>
        intro b s t ha hb hs ht e
        cases b with
        | nil => exact absurd (ht c (a ++ s) e.symm) (ha c (by simp))
        | cons d b =>
          simp only [List.cons_append, List.cons.injEq] at e
          obtain ⟨h1, h2⟩ := ih b s t (fun c hc => ha c (List.mem_cons_of_mem _ hc)) (fun c hc => hb c (List.mem_cons_of_mem _ hc)) hs ht e.2
          exact ⟨by rw [e.1, h1], h2⟩
    have front : ∀ (l : List (List UInt8)) c r, spaced l = c :: r → c = 32 := by
      intro l c r e
      cases l with
      | nil => simp [spaced] at e
      | cons y l => simp [spaced] at e; exact e.1.symm
    obtain ⟨h1, h2⟩ := key x y (spaced l) (spaced m) hx hy (front l) (front m) h
    rw [h1, spaced_inj l m (fun z hz => hl z (List.mem_cons_of_mem _ hz)) (fun z hz => hm z (List.mem_cons_of_mem _ hz)) h2]
theorem map_inj {α β : Type} (f : α → β) (hf : ∀ a b, f a = f b → a = b) : ∀ (l m : List α), l.map f = m.map f → l = m
  | [], [], _ => rfl
  | [], _ :: _, h => by simp at h
  | _ :: _, [], h => by simp at h
  | a :: l, b :: m, h => by simp at h; rw [hf a b h.1, map_inj f hf l m (by simpa using h.2)]
/-! ### a map from texts to numbers: the place of each in a list -/
variable {H : Type}
def mapD (l : List (List UInt8)) : DataW H := (l.zipIdx).foldl (fun D p => D.put (.string p.1) (.lit (.int .i64 (p.2 : Nat)))) (.map [])
theorem snoc_ind {α : Type} {P : List α → Prop} (h0 : P []) (h1 : ∀ l x, P l → P (l ++ [x])) (l : List α) : P l := by
  have : ∀ n (l : List α), l.length = n → P l := by
    intro n
    induction n with
    | zero => intro l hl; rw [List.length_eq_zero_iff.1 hl]; exact h0
    | succ n ih =>
      intro l hl
      have hne : l ≠ [] := by intro e; subst e; simp at hl
      rw [← List.dropLast_concat_getLast hne]
      exact h1 _ _ (ih _ (by simp [hl]))
  exact this _ l rfl
end Go.Proofs.YtlffiomlpkopbaaDoor
/- Layer 5 in plain words: tables, what a symbol tells, terms' values. -/
namespace Go.Proofs.YtlffiomlpkopbaaDoor

/-- a table: its rows, and what it tells else -/
structure Tb5 where
  rows : List (List Int × Int)
  els : Int
def vlTruth (b : Bool) : Int := if b then 1 else 0
def vlFind (rows : List (List Int × Int)) (args : List Int) : Option Nat := rows.findIdx? (fun x => decide (args = x.1))
def vlVal (t : Tb5) (args : List Int) : Int := match vlFind t.rows args with
  | some i => (t.rows[i]?.map (·.2)).getD 0
  | none => t.els
def vlTell (sort : Int) (t : Tb5) (args : List Int) : Int := if sort = 1 then vlTruth (vlVal t args != 0) else vlVal t args
def vlTabAt (ts : List Tb5) (k : Int) : Tb5 := ts[k.toNat]?.getD ⟨[], 0⟩
def vlAt (known : List Int) (k : Int) : Int := known[k.toNat]?.getD 0
def vlSum : List Int → Int
  | [] => 0
  | x :: l => x + vlSum l
/-- what an Op makes of its parts' values, as the program does it -/
def vlOp (syms : List Sy) (ts : List Tb5) (t : Tm) (l : List Int) : Int :=
  if t.op = 1 ∨ t.op = 6 then vlTruth (l.all (· != 0))
  else if t.op = 2 ∨ t.op = 7 then vlTruth (l.any (· != 0))
  else if t.op = 3 then t.num
  else if t.op = 4 then vlTell ((syms[t.sym.toNat]?.getD ⟨[], 0, 0⟩).sort) (vlTabAt ts t.sym) l
  else if t.op = 5 then vlTruth (vlAt l 0 == 0)
  else if t.op = 8 ∨ t.op = 10 then vlTruth (decide (vlAt l 0 = vlAt l 1))
  else if t.op = 9 then (if vlAt l 0 ≠ 0 then vlAt l 1 else vlAt l 2)
  else if t.op = 11 then vlTruth (decide (vlAt l 0 ≤ vlAt l 1))
  else if t.op = 12 then vlSum l
  else t.num * vlAt l 0
def vlParts (t : Tm) (known : List Int) : List Int := t.args.map (vlAt known)
def vlEval (syms : List Sy) (ts : List Tb5) : List Tm → List Int → List Int
  | [], known => known
  | t :: l, known => vlEval syms ts l (known ++ [vlOp syms ts t (vlParts t known)])

end Go.Proofs.YtlffiomlpkopbaaDoor
/- Layer 16 in plain words: what symbols tell of numbers; which is the first of the same; tables. -/
namespace Go.Proofs.YtlffiomlpkopbaaDoor
open Big Go.WideMaps

/-- what a symbol tells of numbers -/
structure Ap where
  sym : Int
  args : List Int
  val : Int
def Ap.key (a : Ap) : Int × List Int := (a.sym, a.args)
def tbSign (z : Int) : UInt8 := if z < 0 then 45 else 43
def tbSep (s : UInt8) (l : List (List UInt8)) : List UInt8 := l.flatMap fun x => s :: x
def tbArg (z : Int) : List UInt8 := tbSep (tbSign z) ((dig W z.natAbs).map Lib.decDigits)
def tbText (a : Ap) : List UInt8 := Lib.itoa a.sym ++ spaced (a.args.map tbArg)
theorem tbSep_snoc (s : UInt8) (l : List (List UInt8)) (x : List UInt8) : tbSep s (l ++ [x]) = tbSep s l ++ s :: x := by simp [tbSep]
theorem tbSep_inj {s : UInt8} : ∀ (l m : List (List UInt8)), (∀ x ∈ l, ∀ c ∈ x, c ≠ s) → (∀ x ∈ m, ∀ c ∈ x, c ≠ s) → tbSep s l = tbSep s m → l = m
  | [], [], _, _, _ => rfl
  | [], y :: m, _, _, h => by simp [tbSep] at h
  | x :: l, [], _, _, h => by simp [tbSep] at h
  | x :: l, y :: m, hl, hm, h => by
    have hx := hl x (by simp)
    have hy := hm y (by simp)
    simp only [tbSep, List.flatMap_cons, List.cons_append, List.cons.injEq, true_and] at h
    have key : ∀ (a b p t : List UInt8), (∀ c ∈ a, c ≠ s) → (∀ c ∈ b, c ≠ s) → (∀ c r, p = c :: r → c = s) → (∀ c r, t = c :: r → c = s) → a ++ p = b ++ t → a = b ∧ p = t := by
      intro a
      induction a with
      | nil =>
        intro b p t _ hb hs ht e
        cases b with
        | nil => exact ⟨rfl, e⟩
        | cons c b => exact absurd (hs c (b ++ t) e) (hb c (by simp))
      | cons c a ih =>
        intro b p t ha hb hs ht e
        cases b with
        | nil => exact absurd (ht c (a ++ p) e.symm) (ha c (by simp))
        | cons d b =>
          simp only [List.cons_append, List.cons.injEq] at e
          obtain ⟨h1, h2⟩ := ih b p t (fun c hc => ha c (List.mem_cons_of_mem _ hc)) (fun c hc => hb c (List.mem_cons_of_mem _ hc)) hs ht e.2
          exact ⟨by rw [e.1, h1], h2⟩
    have front : ∀ (l : List (List UInt8)) c r, tbSep s l = c :: r → c = s := by
      intro l c r e
      cases l with
      | nil => simp [tbSep] at e
      | cons y l => simp [tbSep] at e; exact e.1.symm
    obtain ⟨h1, h2⟩ := key x y (tbSep s l) (tbSep s m) hx hy (front l) (front m) h
    rw [h1, tbSep_inj l m (fun z hz => hl z (List.mem_cons_of_mem _ hz)) (fun z hz => hm z (List.mem_cons_of_mem _ hz)) h2]
theorem dec_plus (u : Nat) (z : Int) : ∀ c ∈ Lib.decDigits u, c ≠ tbSign z := by
  intro c hc e
  subst e
  have := dec_ne _ _ hc
  revert this
  unfold tbSign
  split <;> decide
theorem tbArg_signs (z : Int) : ∀ c ∈ tbArg z, c ≠ 32 := by
  intro c hc e
  subst e
  unfold tbArg tbSep at hc
  obtain ⟨x, hx, hc⟩ := List.mem_flatMap.1 hc
  rcases List.mem_cons.1 hc with h | h
  · revert h
    unfold tbSign
    split <;> decide
  · obtain ⟨u, _, rfl⟩ := List.mem_map.1 hx
    exact dec_signs u _ h rfl
theorem tbArg_inj (a b : Int) (h : tbArg a = tbArg b) : a = b := by
  have hl : ∀ z : Int, (dig W z.natAbs).map Lib.decDigits = [] → z = 0 := fun z hz => by
    have h1 : dig W z.natAbs = [] := by simpa using hz
    have h2 : dig W z.natAbs = dig W (0 : Int).natAbs := by rw [h1]; exact (dig_zero W).symm
    have := dig_inj W2 h2
    omega
  have hs : ∀ z : Int, tbArg z = [] → z = 0 := fun z hz => by
    refine hl z ?_
    unfold tbArg tbSep at hz
    cases hd : (dig W z.natAbs).map Lib.decDigits with
    | nil => rfl
    | cons x l => rw [hd] at hz; simp at hz
  by_cases ha : tbArg a = []
  · rw [hs a ha, hs b (by rw [← h]; exact ha)]
  · have hsg : tbSign a = tbSign b := by
      have hf : ∀ z, tbArg z ≠ [] → ∃ r, tbArg z = tbSign z :: r := fun z hz => by
        unfold tbArg tbSep at hz ⊢
        cases hd : (dig W z.natAbs).map Lib.decDigits with
        | nil => rw [hd] at hz; simp at hz
        | cons x l => exact ⟨_, rfl⟩
      obtain ⟨r, hr⟩ := hf a ha
      obtain ⟨q, hq⟩ := hf b (by rw [← h]; exact ha)
      rw [hr, hq] at h
      exact (List.cons.inj h).1
    have h2 : tbSep (tbSign a) ((dig W a.natAbs).map Lib.decDigits) = tbSep (tbSign a) ((dig W b.natAbs).map Lib.decDigits) := by
      have := h
      unfold tbArg at this
      rw [← hsg] at this
      exact this
    have h3 := tbSep_inj _ _ (by intro x hx c hc; obtain ⟨u, _, rfl⟩ := List.mem_map.1 hx; exact dec_plus u a c hc) (by intro x hx c hc; obtain ⟨u, _, rfl⟩ := List.mem_map.1 hx; exact dec_plus u a c hc) h2
    have h4 := dig_inj W2 (map_inj _ dec_inj _ _ h3)
    have h5 : (a < 0) ↔ (b < 0) := by
      unfold tbSign at hsg
      by_cases h1 : a < 0 <;> by_cases h2 : b < 0
      · simp [h1, h2]
      · rw [if_pos h1, if_neg h2] at hsg; exact absurd hsg (by decide)
      · rw [if_neg h1, if_pos h2] at hsg; exact absurd hsg (by decide)
      · simp [h1, h2]
    omega
theorem tbText_inj (a b : Ap) (h : tbText a = tbText b) : a.key = b.key := by
  have h1 : spaced (Lib.itoa a.sym :: a.args.map tbArg) = spaced (Lib.itoa b.sym :: b.args.map tbArg) := by
    show 32 :: (Lib.itoa a.sym ++ spaced (a.args.map tbArg)) = 32 :: (Lib.itoa b.sym ++ spaced (b.args.map tbArg))
    exact congrArg (List.cons 32) h
  have hs : ∀ c : Ap, ∀ x ∈ Lib.itoa c.sym :: c.args.map tbArg, ∀ d ∈ x, d ≠ 32 := by
    intro c x hx
    rcases List.mem_cons.1 hx with rfl | hx
    · exact itoa_signs _
    · obtain ⟨z, _, rfl⟩ := List.mem_map.1 hx
      exact tbArg_signs z
  have h2 := spaced_inj _ _ (hs a) (hs b) h1
  have h3 := itoa_inj _ _ (List.cons.inj h2).1
  have h4 := map_inj _ tbArg_inj _ _ (List.cons.inj h2).2
  unfold Ap.key
  rw [h3, h4]
theorem tbText_key (a b : Ap) (h : a.key = b.key) : tbText a = tbText b := by
  unfold Ap.key at h
  injection h with h1 h2
  unfold tbText
  rw [h1, h2]

/-- the first of the same -/
def tbFirst (l : List Ap) (a : Ap) : Nat := l.findIdx (fun b => decide (b.key = a.key))
theorem tbFirst_le {l : List Ap} {n : Nat} (h : n < l.length) : tbFirst l l[n] ≤ n := by
  refine Nat.le_of_not_lt fun hlt => ?_
  have := List.not_of_lt_findIdx hlt
  simp at this
theorem tbFirst_key {l : List Ap} {n : Nat} (h : n < l.length) : ∃ h' : tbFirst l l[n] < l.length, (l[tbFirst l l[n]]'h').key = l[n].key := by
  have h1 : tbFirst l l[n] < l.length := Nat.lt_of_le_of_lt (tbFirst_le h) h
  refine ⟨h1, ?_⟩
  have := List.findIdx_getElem (p := fun (b : Ap) => decide (b.key = l[n].key)) (xs := l) (w := (h1 : l.findIdx (fun (b : Ap) => decide (b.key = l[n].key)) < l.length))
  exact of_decide_eq_true this
theorem tbFirst_min {l : List Ap} {a : Ap} {i : Nat} (h : i < l.length) (hk : l[i].key = a.key) : tbFirst l a ≤ i := by
  refine Nat.le_of_not_lt fun hlt => ?_
  have := List.not_of_lt_findIdx hlt
  simp [hk] at this
theorem tbFirst_take {l : List Ap} {n : Nat} (h : n < l.length) : tbFirst (l.take (n + 1)) l[n] = tbFirst l l[n] := by
  have h0 : (l.take (n + 1)).length = n + 1 := by simp; omega
  have h1 : (l.take (n + 1))[n]'(by omega) = l[n] := by simp
  refine Nat.le_antisymm ?_ ?_
  · have hk := tbFirst_key h
    obtain ⟨h', hk⟩ := hk
    have hle := tbFirst_le h
    exact tbFirst_min (l := l.take (n + 1)) (by omega) (by rw [List.getElem_take]; exact hk)
  · have hk := tbFirst_key (l := l.take (n + 1)) (n := n) (by omega)
    rw [h1] at hk
    obtain ⟨h', hk⟩ := hk
    exact tbFirst_min (by omega) (by rw [List.getElem_take] at hk; exact hk)

/-- the map of the first ones, over texts -/
structure SaidIs {H : Type} (D : DataW H) (l : List (List UInt8)) : Prop where
  isMap : Maps.IsMap D
  has : ∀ x, Maps.has D (.string x) = l.contains x
  idx : ∀ x, x ∈ l → ∀ z, D.atKey (.string x) z = .lit (.int .i64 (l.findIdx (fun y => y == x) : Nat))
theorem SaidIs.nil {H : Type} : SaidIs (.map [] : DataW H) [] := ⟨⟨[], rfl⟩, fun _ => rfl, fun x h => by simp at h⟩
theorem SaidIs.old {H : Type} {D : DataW H} {l : List (List UInt8)} (h : SaidIs D l) {x : List UInt8} (hx : x ∈ l) : SaidIs D (l ++ [x]) := by
  refine ⟨h.isMap, fun y => ?_, fun y hy z => ?_⟩
  · rw [h.has, List.contains_append]
    by_cases e : y = x
    · subst e; simp [hx]
    · simp [e]
  · have hyl : y ∈ l := by
      rcases List.mem_append.1 hy with hy | hy
      · exact hy
      · rw [List.mem_singleton.1 hy]; exact hx
    rw [h.idx y hyl, List.findIdx_append, if_pos (List.findIdx_lt_length_of_exists ⟨y, hyl, by simp⟩)]
theorem SaidIs.new {H : Type} {D : DataW H} {l : List (List UInt8)} (h : SaidIs D l) {x : List UInt8} (hx : x ∉ l) : SaidIs (D.put (.string x) (.lit (.int .i64 (l.length : Nat)))) (l ++ [x]) := by
  refine ⟨h.isMap.put _ _, fun y => ?_, fun y hy z => ?_⟩
  · by_cases e : x = y
    · subst e
      rw [Maps.has_put_same h.isMap (by trivial)]
      simp
    · rw [Maps.has_put_other (by intro h; injection h with h; exact e h.symm), h.has]
      simp
      intro h; exact absurd h.symm e
  · by_cases e : y = x
    · subst e
      rw [Maps.atKey_put_same h.isMap (by trivial), List.findIdx_append, if_neg (by
        intro hlt
        have := List.findIdx_getElem (w := hlt)
        have hm := List.getElem_mem hlt
        simp only [beq_iff_eq] at this
        rw [this] at hm
        exact hx hm)]
      simp
    · have hyl : y ∈ l := by
        rcases List.mem_append.1 hy with hy | hy
        · exact hy
        · exact absurd (List.mem_singleton.1 hy) e
      rw [Maps.atKey_put_other (by intro h; injection h with h; exact e h), h.idx y hyl, List.findIdx_append, if_pos (List.findIdx_lt_length_of_exists ⟨y, hyl, by simp⟩)]
theorem text_first (l : List Ap) (a : Ap) : (l.map tbText).findIdx (fun y => y == tbText a) = tbFirst l a := by
  unfold tbFirst
  rw [List.findIdx_map]
  congr 1
  funext b
  show (tbText b == tbText a) = decide (b.key = a.key)
  rw [Bool.eq_iff_iff]
  simp only [beq_iff_eq, decide_eq_true_eq]
  exact ⟨tbText_inj b a, tbText_key b a⟩
theorem text_mem (l : List Ap) (a : Ap) : tbText a ∈ l.map tbText ↔ tbFirst l a < l.length := by
  unfold tbFirst
  rw [List.mem_map, List.findIdx_lt_length]
  constructor
  · rintro ⟨b, hb, h⟩
    exact ⟨b, hb, decide_eq_true (tbText_inj b a h)⟩
  · rintro ⟨b, hb, h⟩
    exact ⟨b, hb, tbText_key b a (of_decide_eq_true h)⟩
end Go.Proofs.YtlffiomlpkopbaaDoor
/- Layer 16 in plain words: which clash first; tables out of what is said. -/
namespace Go.Proofs.YtlffiomlpkopbaaDoor
open Big

def tbV (l : List Ap) (i : Nat) : Int := (l[i]?.map Ap.val).getD 0
theorem tbV_at {l : List Ap} {i : Nat} (h : i < l.length) : tbV l i = l[i].val := by simp [tbV, h]
/-- it clashes with what is told ahead of it -/
def tbBad (l : List Ap) (n : Nat) : Bool := match l[n]? with
  | some a => decide (tbV l (tbFirst l a) ≠ a.val)
  | none => false
theorem tbBad_at {l : List Ap} {n : Nat} (h : n < l.length) : tbBad l n = decide (tbV l (tbFirst l l[n]) ≠ l[n].val) := by simp [tbBad, h]
def tbClash (l : List Ap) : Int × Int × Bool := match (List.range l.length).find? (tbBad l) with
  | some n => (match l[n]? with | some a => ((tbFirst l a : Nat), (n : Nat), true) | none => (0, 0, false))
  | none => (0, 0, false)
theorem tbClash_some {l : List Ap} {n : Nat} (h : n < l.length) (hb : tbBad l n = true) (hj : ∀ j, j < n → tbBad l j = false) : tbClash l = (((tbFirst l l[n] : Nat) : Int), ((n : Nat) : Int), true) := by
  have : (List.range l.length).find? (tbBad l) = some n := by
    rw [List.find?_range_eq_some]
    exact ⟨hb, by simpa using h, fun j hj' => by simp [hj j hj']⟩
  unfold tbClash
  rw [this]
  simp [h]
theorem tbClash_none {l : List Ap} (hj : ∀ j, j < l.length → tbBad l j = false) : tbClash l = (0, 0, false) := by
  have : (List.range l.length).find? (tbBad l) = none := by
    rw [List.find?_range_eq_none]
    exact fun j hj' => by simp [hj j hj']
  unfold tbClash
  rw [this]
theorem tbBad_no {l : List Ap} (h : (tbClash l).2.2 = false) : ∀ j, j < l.length → tbBad l j = false := by
  intro j hj
  refine Classical.byContradiction fun hb => ?_
  have hb : tbBad l j = true := by simpa using hb
  have hex : ∃ n, n < l.length ∧ tbBad l n = true ∧ ∀ k, k < n → tbBad l k = false := by
    refine Nat.strongRecOn (motive := fun j => j < l.length → tbBad l j = true → ∃ n, n < l.length ∧ tbBad l n = true ∧ ∀ k, k < n → tbBad l k = false) j (fun j ih hj hb => ?_) hj hb
    by_cases hk : ∃ k, k < j ∧ tbBad l k = true
    · obtain ⟨k, hk, hkb⟩ := hk
      exact ih k hk (by omega) hkb
    · exact ⟨j, hj, hb, fun k hk' => by
        cases hkb : tbBad l k with
        | false => rfl
        | true => exact absurd ⟨k, hk', hkb⟩ hk⟩
  obtain ⟨n, hn, hb, hk⟩ := hex
  rw [tbClash_some hn hb hk] at h
  cases h
/-- no two clash -/
def tbOk (l : List Ap) : Prop := ∀ i j, ∀ (hi : i < l.length) (hj : j < l.length), l[i].key = l[j].key → l[i].val = l[j].val
theorem tbFirst_congr {l : List Ap} {a b : Ap} (h : a.key = b.key) : tbFirst l a = tbFirst l b := by unfold tbFirst; rw [h]
theorem tbOk_of {l : List Ap} (h : ∀ j, j < l.length → tbBad l j = false) : tbOk l := by
  intro i j hi hj hk
  have h1 := h i hi
  have h2 := h j hj
  rw [tbBad_at hi] at h1
  rw [tbBad_at hj] at h2
  have h1 : tbV l (tbFirst l l[i]) = l[i].val := by simpa using h1
  have h2 : tbV l (tbFirst l l[j]) = l[j].val := by simpa using h2
  rw [← h1, ← h2, tbFirst_congr hk]
/-- the reference's way: for each second one the first ones in their order -/
theorem tb_hit {l : List Ap} {i k : Nat} (hk : k < l.length) (hik : i < k) (hb : ∀ j, j < k → tbBad l j = false) (he : (l[i]'(by omega)).key = l[k].key) (hv : (l[i]'(by omega)).val ≠ l[k].val)
    (hi : ∀ j (hj : j < i), (l[j]'(by omega)).key = l[k].key → (l[j]'(by omega)).val = l[k].val) : tbClash l = (((i : Nat) : Int), ((k : Nat) : Int), true) := by
  have h1 := hb i hik
  rw [tbBad_at (by omega)] at h1
  have h1 : tbV l (tbFirst l (l[i]'(by omega))) = (l[i]'(by omega)).val := by simpa using h1
  rw [tbFirst_congr he] at h1
  have h2 : tbFirst l l[k] ≤ i := tbFirst_min (by omega) he
  obtain ⟨h', h3⟩ := tbFirst_key hk
  have h4 : tbFirst l l[k] = i := by
    refine Classical.byContradiction fun hne => ?_
    have h5 := hi (tbFirst l l[k]) (by omega) h3
    rw [tbV_at h'] at h1
    exact hv (h1 ▸ h5)
  have h5 := tbClash_some hk (by rw [tbBad_at hk]; simpa [h1] using hv) hb
  rw [h5, h4]
theorem tb_row {l : List Ap} {k : Nat} (hk : k < l.length) (hi : ∀ j (hj : j < k), (l[j]'(by omega)).key = l[k].key → (l[j]'(by omega)).val = l[k].val) : tbBad l k = false := by
  obtain ⟨h', h3⟩ := tbFirst_key hk
  rw [tbBad_at hk, tbV_at h']
  by_cases h : tbFirst l l[k] = k
  · simp [h]
  · have := hi _ (by have := tbFirst_le hk; omega) h3
    simpa using this

/-! ### tables -/
def tbNoSym (syms : List Sy) (a : Ap) : Bool := decide (a.sym < 0) || decide ((syms.length : Int) ≤ a.sym)
def tbBadCount (syms : List Sy) (a : Ap) : Bool := decide ((a.args.length : Int) ≠ (syms[a.sym.toNat]?.getD ⟨[], 0, 0⟩).arity)
def tbFault (syms : List Sy) (l : List Ap) : Int := if l.any (tbNoSym syms) then 1 else if l.any (tbBadCount syms) then 9 else if (tbClash l).2.2 then 6 else 0
def tbAdd (t : Tb5) (a : Ap) : Tb5 := if a.args = [] then ⟨t.rows, a.val⟩ else if t.rows.any (fun r => decide (r.1 = a.args)) then t else ⟨t.rows ++ [(a.args, a.val)], t.els⟩
/-- a symbol's table -/
def tbTab (l : List Ap) (s : Int) : Tb5 := (l.filter (fun a => decide (a.sym = s))).foldl tbAdd ⟨[], 0⟩
def tbTabs (syms : List Sy) (l : List Ap) : List Tb5 := (List.range syms.length).map (fun s => tbTab l (s : Nat))
theorem tbTab_snoc (l : List Ap) (a : Ap) (s : Int) : tbTab (l ++ [a]) s = if a.sym = s then tbAdd (tbTab l s) a else tbTab l s := by
  unfold tbTab
  rw [List.filter_append, List.foldl_append]
  by_cases h : a.sym = s
  · rw [if_pos h]; simp [h]
  · rw [if_neg h]; simp [h]
theorem tbAdd_has (t : Tb5) (a : Ap) (x : List Int) : (tbAdd t a).rows.any (fun r => decide (r.1 = x)) = (t.rows.any (fun r => decide (r.1 = x)) || (decide (a.args = x) && decide (x ≠ []))) := by
  unfold tbAdd
  by_cases h : a.args = []
  · rw [if_pos h]
    by_cases hx : a.args = x
    · subst hx; simp [h]
    · simp [hx]
  · rw [if_neg h]
    by_cases h2 : t.rows.any (fun r => decide (r.1 = a.args)) = true
    · rw [if_pos h2]
      by_cases hx : a.args = x
      · subst hx; simp only [h2, Bool.true_or]
      · simp [hx]
    · rw [if_neg h2]
      simp only [List.any_append, List.any_cons, List.any_nil, Bool.or_false]
      by_cases hx : a.args = x
      · subst hx; simp [h]
      · simp [hx]
theorem tbTab_has (l : List Ap) (s : Int) (x : List Int) : (tbTab l s).rows.any (fun r => decide (r.1 = x)) = true ↔ x ≠ [] ∧ ∃ a ∈ l, a.sym = s ∧ a.args = x := by
  induction l using snoc_ind with
  | h0 => simp [tbTab]
  | h1 l a ih =>
    rw [tbTab_snoc]
    by_cases h : a.sym = s
    · rw [if_pos h, tbAdd_has, Bool.or_eq_true, ih]
      simp only [Bool.and_eq_true, decide_eq_true_eq]
      constructor
      · rintro (⟨h1, b, hb, h2⟩ | ⟨h1, h2⟩)
        · exact ⟨h1, b, List.mem_append_left _ hb, h2⟩
        · exact ⟨h2, a, by simp, h, h1⟩
      · rintro ⟨h1, b, hb, h2, h3⟩
        rcases List.mem_append.1 hb with hb | hb
        · exact .inl ⟨h1, b, hb, h2, h3⟩
        · rw [List.mem_singleton.1 hb] at h3; exact .inr ⟨h3, h1⟩
    · rw [if_neg h, ih]
      constructor
      · rintro ⟨h1, b, hb, h2⟩
        exact ⟨h1, b, List.mem_append_left _ hb, h2⟩
      · rintro ⟨h1, b, hb, h2, h3⟩
        rcases List.mem_append.1 hb with hb | hb
        · exact ⟨h1, b, hb, h2, h3⟩
        · rw [List.mem_singleton.1 hb] at h2; exact absurd h2 h
theorem tbTab_els (l : List Ap) (h : tbOk l) (s : Int) (i : Nat) (hi : i < l.length) (hs : l[i].sym = s) (ha : l[i].args = []) : (tbTab l s).els = l[i].val := by
  induction l using snoc_ind generalizing i with
  | h0 => simp at hi
  | h1 l a ih =>
    rw [tbTab_snoc]
    have hl : tbOk l := fun x y hx hy hk => by
      have := h x y (by simp; omega) (by simp; omega)
      rw [List.getElem_append_left hx, List.getElem_append_left hy] at this
      exact this hk
    by_cases he : a.sym = s ∧ a.args = []
    · rw [if_pos he.1]
      unfold tbAdd
      rw [if_pos he.2]
      have := h l.length i (by simp) hi
      rw [List.getElem_append_right (Nat.le_refl _)] at this
      simp only [Nat.sub_self, List.getElem_cons_zero] at this
      exact this (by unfold Ap.key; rw [he.1, he.2, hs, ha])
    · have hlt : i < l.length := by
        refine Classical.byContradiction fun hn => ?_
        have e : i = l.length := by simp at hi; omega
        subst e
        simp at hs ha
        exact he ⟨hs, ha⟩
      rw [List.getElem_append_left hlt] at hs ha ⊢
      have hi2 := ih hl i hlt hs ha
      by_cases h1 : a.sym = s
      · rw [if_pos h1]
        unfold tbAdd
        rw [if_neg (fun h2 => he ⟨h1, h2⟩)]
        split
        · exact hi2
        · exact hi2
      · rw [if_neg h1]; exact hi2
/-- what is no first one changes nothing -/
theorem tbAdd_old (l : List Ap) (h : tbOk l) (n : Nat) (hn : n < l.length) (hf : tbFirst l l[n] < n) : tbAdd (tbTab (l.take n) l[n].sym) l[n] = tbTab (l.take n) l[n].sym := by
  obtain ⟨h', hk⟩ := tbFirst_key hn
  have hk1 : (l[tbFirst l l[n]]'h').sym = l[n].sym ∧ (l[tbFirst l l[n]]'h').args = l[n].args := by
    have := hk
    unfold Ap.key at this
    exact Prod.mk.inj this
  have hmem : (l[tbFirst l l[n]]'h') ∈ l.take n := List.mem_take_iff_getElem.2 ⟨_, by omega, rfl⟩
  have hlt : (l.take n).length = n := by simp; omega
  unfold tbAdd
  by_cases h1 : l[n].args = []
  · rw [if_pos h1]
    have hok : tbOk (l.take n) := fun x y hx hy hk => by
      rw [List.getElem_take, List.getElem_take] at hk ⊢
      exact h x y _ _ hk
    have := tbTab_els (l.take n) hok l[n].sym (tbFirst l l[n]) (by omega) (by rw [List.getElem_take]; exact hk1.1) (by rw [List.getElem_take, hk1.2, h1])
    rw [List.getElem_take] at this
    have h3 := h _ _ h' hn hk
    rw [← h3, ← this]
  · rw [if_neg h1, if_pos]
    rw [tbTab_has]
    exact ⟨h1, _, hmem, hk1.1, hk1.2⟩
theorem tbAdd_new (l : List Ap) (n : Nat) (hn : n < l.length) (hf : tbFirst l l[n] = n) (h1 : l[n].args ≠ []) : tbAdd (tbTab (l.take n) l[n].sym) l[n] = ⟨(tbTab (l.take n) l[n].sym).rows ++ [(l[n].args, l[n].val)], (tbTab (l.take n) l[n].sym).els⟩ := by
  unfold tbAdd
  rw [if_neg h1, if_neg]
  intro h2
  rw [tbTab_has] at h2
  obtain ⟨-, a, ha, h3, h4⟩ := h2
  obtain ⟨i, hi, rfl⟩ := List.mem_iff_getElem.1 ha
  have hin : i < n := by simp at hi; omega
  rw [List.getElem_take] at h3 h4
  have := tbFirst_min (l := l) (a := l[n]) (i := i) (by omega) (by unfold Ap.key; rw [h3, h4])
  omega
theorem tbTab_step (l : List Ap) (n : Nat) (hn : n < l.length) (s : Int) : tbTab (l.take (n + 1)) s = if l[n].sym = s then tbAdd (tbTab (l.take n) s) l[n] else tbTab (l.take n) s := by
  rw [List.take_succ_eq_append_getElem hn, tbTab_snoc]
theorem tbTab_len (l : List Ap) (s : Int) : (tbTab l s).rows.length ≤ l.length := by
  induction l using snoc_ind with
  | h0 => simp [tbTab]
  | h1 l a ih =>
    rw [tbTab_snoc]
    split
    · unfold tbAdd
      split
      · simp; omega
      · split
        · simp; omega
        · simp; omega
    · simp; omega
end Go.Proofs.YtlffiomlpkopbaaDoor
/- Layer 16 in plain words: what the laws ask of tables. -/
namespace Go.Proofs.YtlffiomlpkopbaaDoor
open Big

theorem tbFault_zero {syms : List Sy} {l : List Ap} (h : tbFault syms l = 0) : (∀ a ∈ l, 0 ≤ a.sym ∧ a.sym < syms.length) ∧ (∀ a ∈ l, (a.args.length : Int) = (syms[a.sym.toNat]?.getD ⟨[], 0, 0⟩).arity) ∧ tbOk l := by
  unfold tbFault at h
  split at h
  · cases h
  · rename_i h1
    split at h
    · cases h
    · rename_i h2
      split at h
      · cases h
      · rename_i h3
        refine ⟨fun a ha => ?_, fun a ha => ?_, tbOk_of (tbBad_no (by simpa using h3))⟩
        · have := fun h => h1 (List.any_eq_true.2 ⟨a, ha, h⟩)
          unfold tbNoSym at this
          simp at this
          omega
        · have := fun h => h2 (List.any_eq_true.2 ⟨a, ha, h⟩)
          unfold tbBadCount at this
          simpa using this
end Go.Proofs.YtlffiomlpkopbaaDoor
/- How a slice of unsigned or signed numbers reads in memory: At w k v l says that the value v is a slice whose elements, of integer kind k, are the numbers l. -/
namespace Go.Proofs.YtlffiomlpkopbaaDoor
open Go.RowKit

/-- a fact that the walk does not take for a rule -/
theorem hid {p : Prop} (h : p) : Hid p := h

/-- the slice v holds the numbers l -/
def At (w : World) (k : IntKind) (v : Value) (l : List Nat) : Prop :=
  ∃ p cap, v = .slice p l.length cap ∧ l.length ≤ cap ∧ cap ≤ maxLen ∧ (p = none → cap = 0) ∧
    (0 < l.length → ∃ b off, p = some ⟨b, off, none⟩ ∧ b < w.heap.size ∧ ∀ i (h : i < l.length), w.cell? ⟨b, off + i, none⟩ = some (.int k (l[i]'h : Nat)))

theorem At.nil (w : World) (k : IntKind) : At w k (.slice none 0 0) [] := ⟨none, 0, rfl, by simp, by simp [maxLen], fun _ => rfl, fun h => absurd h (by simp)⟩
theorem At.below {w w' : World} {k : IntKind} {v : Value} {l : List Nat} (h : At w k v l) (hb : Below w.heap.size w w') : At w' k v l := by
  obtain ⟨p, cap, hv, h1, h2, h3, h4⟩ := h
  refine ⟨p, cap, hv, h1, h2, h3, fun hp => ?_⟩
  obtain ⟨b, off, h5, h6, h7⟩ := h4 hp
  exact ⟨b, off, h5, Nat.lt_of_lt_of_le h6 hb.size, fun i hi => (hb.cell (p := ⟨b, off + i, none⟩) h6).trans (h7 i hi)⟩
/-- a cut at the end -/
theorem At.take {w : World} {k : IntKind} {p : Option Addr} {n cap : Nat} {l : List Nat} (h : At w k (.slice p n cap) l) (m : Nat) (hm : m ≤ l.length) : At w k (.slice p m cap) (l.take m) := by
  obtain ⟨p', cap', hv, h1, h2, h3, h4⟩ := h
  cases hv
  refine ⟨p, cap, by simp [Nat.min_eq_left hm], by simp; omega, h2, h3, fun hp => ?_⟩
  rw [List.length_take, Nat.min_eq_left hm] at hp
  obtain ⟨b, off, h5, h6, h7⟩ := h4 (by omega)
  exact ⟨b, off, h5, h6, fun i hi => by rw [h7 i (by simp at hi; omega)]; simp⟩

/-- what a call answers: a slice of numbers l; memory that was there stays -/
def RAt (k : IntKind) (l : List Nat) (w : World) (e : Ending) (w' : World) : Prop := ∃ v', e = .returned v' ∧ At w' k v' l ∧ Below w.heap.size w w'
/-- likewise, nothing having turned -/
def RSame (k : IntKind) (l : List Nat) (w : World) (e : Ending) (w' : World) : Prop := ∃ v', e = .returned v' ∧ At w' k v' l ∧ w = w'
/-- a whole number by its sign and size -/
def sg (neg : Bool) (n : Nat) : Int := if neg then -(n : Int) else n
/-- a whole number as it is told -/
def IntAt (w : World) (v : Value) (z : Int) : Prop := ∃ s, v = .agg #[.bool (decide (z < 0)), s] ∧ At w .u64 s (Big.dig Big.W z.natAbs)
def RInt (z : Int) (w : World) (e : Ending) (w' : World) : Prop := ∃ v, e = .returned v ∧ IntAt w' v z ∧ Below w.heap.size w w'
/-- a whole number as it is handed in -/
def RawAt (w : World) (v : Value) (z : Int) : Prop := ∃ neg s l, v = .agg #[.bool neg, s] ∧ At w .u64 s l ∧ Big.Small Big.W l ∧ l.length ≤ 1099511627776 ∧ z = sg neg (Big.val Big.W l)
def RBool (b : Bool) (w : World) (e : Ending) (w' : World) : Prop := e = .returned (.bool b) ∧ Below w.heap.size w w'
def RNum (k : IntKind) (n : Int) (w : World) (e : Ending) (w' : World) : Prop := e = .returned (.int k n) ∧ Below w.heap.size w w'
theorem IntAt.below {w w' : World} {v : Value} {z : Int} (h : IntAt w v z) (hb : Below w.heap.size w w') : IntAt w' v z := by
  obtain ⟨s, hs, ha⟩ := h
  exact ⟨s, hs, ha.below hb⟩
theorem RawAt.below {w w' : World} {v : Value} {z : Int} (h : RawAt w v z) (hb : Below w.heap.size w w') : RawAt w' v z := by
  obtain ⟨neg, s, l, hs, ha, r⟩ := h
  exact ⟨neg, s, l, hs, ha.below hb, r⟩
theorem sg_natAbs (neg : Bool) (n : Nat) : (sg neg n).natAbs = n := by unfold sg; cases neg <;> simp
theorem sg_neg (neg : Bool) (n : Nat) (h : n ≠ 0) : decide (sg neg n < 0) = neg := by unfold sg; cases neg <;> simp <;> omega
theorem sg_zero (neg : Bool) : sg neg 0 = 0 := by unfold sg; cases neg <;> simp
theorem IntAt.zero (w : World) : IntAt w (.agg #[.bool false, .slice none 0 0]) 0 := ⟨_, by simp, At.nil w .u64⟩
theorem IntAt.mk {w : World} {neg : Bool} {s : Value} {n : Nat} (h0 : n ≠ 0) (h : At w .u64 s (Big.dig Big.W n)) : IntAt w (.agg #[.bool neg, s]) (sg neg n) :=
  ⟨s, by rw [sg_neg neg n h0], by rw [sg_natAbs]; exact h⟩
/-- a fresh cell of its own -/
theorem At.one (w : World) (k : IntKind) (x : Nat) (t : TypeId) : At (w.alloc (.cells #[.int k x] t)) k (.slice (some ⟨w.heap.size, 0, none⟩) 1 1) [x] :=
  ⟨_, 1, rfl, by simp, by simp [maxLen], fun h => (by cases h), fun _ => ⟨_, _, rfl, by simp, fun i hi => by
    obtain rfl : i = 0 := by simp at hi; omega
    simp [go_sem]⟩⟩
theorem below1 (w : World) (o : Obj) : Below w.heap.size w (w.alloc o) := (Below.refl _ _).alloc (Nat.le_refl _) o
def lenOf : Value → Nat | .slice _ n _ => n | _ => 0

theorem quiet_add_same {P : Program} {f : FuncId} {args : Array Value} {w : World} {a n : Nat} {v : Value}
    (h : Calls P f args (w.drewN (a + n)) fun e w' => e = .returned v ∧ w' = w.drewN (a + n)) :
    Calls P f args (w.drewN (a + n)) fun e w'' => e = .returned v ∧ ∃ m, w'' = w.drewN (a + m) :=
  h.mono fun _ _ ⟨he, hm⟩ => ⟨he, n, hm⟩
theorem At.drew {w : World} {k : IntKind} {v : Value} {l : List Nat} (h : At w k v l) : At w.drew k v l := h
theorem At.alloc {w : World} {k : IntKind} {v : Value} {l : List Nat} (h : At w k v l) (o : Obj) : At (w.alloc o) k v l := h.below (below1 w o)
/-- a slice cut behind its first m elements -/
def cutTo (v : Value) (m : Nat) : Value := match v with | .slice p _ c => .slice p m c | v => v
theorem At.cut {w : World} {k : IntKind} {v : Value} {l : List Nat} (h : At w k v l) (m : Nat) (hm : m ≤ l.length) : At w k (cutTo v m) (l.take m) := by
  have h' := h
  obtain ⟨p, cap, rfl, r⟩ := h'
  exact h.take m hm
theorem At.drewN {w : World} {k : IntKind} {v : Value} {l : List Nat} (h : At w k v l) (n : Nat) : At (w.drewN n) k v l := h

end Go.Proofs.YtlffiomlpkopbaaDoor
/- whole.trim: what is left is the digits without the noughts at the end. -/
namespace Go.Proofs.YtlffiomlpkopbaaDoor
open Go.RowKit Big

set_option maxHeartbeats 400000 in
theorem trim_val (v : Value) (l : List Nat) (w : World) (h : At w .u64 v l) :
    Calls Tryd.prog 34 #[v] w (fun e w' => e = .returned (cutTo v (strip l).length) ∧ w' = w) := by
  obtain ⟨p, cap, rfl, h1, h2, h3, h4⟩ := h
  unfold maxLen at h2
  go_enter Tryd.func34, Tryd.ntmps34
  go_wp2
  go_loop [0] (fun s => ∃ k : Nat, k ≤ l.length ∧ s = .slice p k cap ∧ strip (l.take k) = strip l) (fun s => lenOf s)
  case atStart => exact ⟨l.length, Nat.le_refl _, rfl, by rw [List.take_length]⟩
  case round =>
    obtain ⟨k, hk, rfl, hs⟩ := hrel
    have Hs := hid hs; clear hs
    by_cases hk0 : 0 < k
    · obtain ⟨b, off, rfl, hb, hc⟩ := h4 (by omega)
      have hck : w.cell? ⟨b, off + (k - 1), none⟩ = some (.int .u64 (l[k-1]'(by omega) : Nat)) := hc (k - 1) (by omega)
      clear hc h4
      go_wp2
      · go_round
        case rel =>
          have hz : ((l[k-1]'(by omega) : Nat) == 0) = true := by simpa using ‹((l[k-1]'(by omega) : Nat) == (0 : Int)) = true›
          refine ⟨k - 1, by omega, rfl, ?_⟩
          rw [← Hs.out, ← strip_take (k := k - 1) (by omega) (by simpa using hz), Nat.sub_add_cancel hk0]
        case measure => simp [lenOf]; omega
      · have hz : ¬ (l[k-1]'(by omega) : Nat) = 0 := by
          have := ‹((l[k-1]'(by omega) : Nat) == (0 : Int)) = false›
          simpa using this
        have hs := strip_take_ne (l := l) (k := k - 1) (by omega) hz
        rw [Nat.sub_add_cancel hk0, Hs.out] at hs
        go_ret
        exact ⟨by rw [hs, List.length_take, Nat.min_eq_left hk]; rfl, rfl⟩
    · obtain rfl : k = 0 := by omega
      have hs : Hid (strip l = []) := by rw [← Hs.out]; rfl
      go_wp2
      go_ret
      exact ⟨by rw [hs.out]; rfl, rfl⟩
theorem strip_is_take (l : List Nat) : strip l = l.take (strip l).length := by
  induction l with
  | nil => rfl
  | cons x l ih =>
    simp only [strip]
    cases h : strip l with
    | nil => by_cases hx : x = 0 <;> simp [hx]
    | cons y m =>
      rw [h] at ih
      simp only [List.length_cons] at ih ⊢
      rw [List.take_succ_cons, ← ih]
theorem At.strip {w : World} {k : IntKind} {v : Value} {l : List Nat} (h : At w k v l) : At w k (cutTo v (strip l).length) (strip l) := by
  have := h.cut (Big.strip l).length (strip_length l)
  rwa [← strip_is_take] at this
theorem trim_any (v : Value) (l : List Nat) (w : World) (h : At w .u64 v l) : Calls Tryd.prog 34 #[v] w (RSame .u64 (strip l) w) :=
  (trim_val v l w h).mono fun _ _ ⟨he, hw⟩ => ⟨_, he, by subst hw; exact h.strip, hw.symm⟩
end Go.Proofs.YtlffiomlpkopbaaDoor
/- whole's small functions: told, ownWord, word, own. -/
namespace Go.Proofs.YtlffiomlpkopbaaDoor
open Go.RowKit Big

set_option maxHeartbeats 400000 in
theorem told_any (neg : Bool) (s : Value) (n : Nat) (w : World) (h : At w .u64 s (dig W n)) :
    Calls Tryd.prog 48 #[.bool neg, s] w (RInt (sg neg n) w) := by
  have hat := hid h
  obtain ⟨p, cap, rfl, h1, h2, h3, h4⟩ := h
  unfold maxLen at h2
  clear h4
  by_cases h0 : (dig W n).length = 0
  · have hn : n = 0 := (dig_eq_nil W2).1 (List.eq_nil_of_length_eq_zero h0)
    have Hn := hid hn; clear hn
    go_enter Tryd.func48, Tryd.ntmps48
    go_wp2
    exact bodyPost_ret (v := .agg #[.bool false, .slice none 0 0]) (by simp [results, Tryd.results48, go_sem]) rfl ⟨_, rfl, by rw [Hn.out, sg_zero]; exact IntAt.zero _, below1 _ _⟩
  · have hn : n ≠ 0 := fun e => h0 (by rw [e]; rfl)
    have Hn := hid hn; clear hn
    go_enter Tryd.func48, Tryd.ntmps48
    go_wp2
    exact bodyPost_ret (v := .agg #[.bool neg, .slice p (dig W n).length cap]) (by simp [results, Tryd.results48, go_sem]) rfl ⟨_, rfl, IntAt.mk Hn.out (hat.out.below (below1 _ _)), below1 _ _⟩



end Go.Proofs.YtlffiomlpkopbaaDoor
/- Slices of numbers that a call has made itself: what append and make do with them. -/
namespace Go.Proofs.YtlffiomlpkopbaaDoor
open Go.RowKit Big

/-- t is the type of slices of e, the integers of kind k, of so many bytes -/
structure Elem (P : Program) (t e : TypeId) (k : IntKind) (size : Nat) : Prop where
  und : P.underlying t = some (.slice e)
  row : ∃ i, P.info? e = some i ∧ i.zero = some (.int k 0) ∧ i.size = 1 ∧ i.bytes = size
def ints (k : IntKind) (l : List Nat) : List Value := l.map fun x => Value.int k (x : Nat)
/-- v holds the numbers l in a row of the call's own, from block base on -/
def Own (w : World) (base : Nat) (e : TypeId) (k : IntKind) (v : Value) (l : List Nat) : Prop := w.ownsRow base e 1 v l.length (ints k l)

theorem ints_length (k : IntKind) (l : List Nat) : (ints k l).length = l.length := by simp [ints]
theorem ints_append (k : IntKind) (l m : List Nat) : ints k (l ++ m) = ints k l ++ ints k m := by simp [ints]
theorem Own.nil (w : World) (base : Nat) (e : TypeId) (k : IntKind) : Own w base e k (.slice none 0 0) [] := World.ownsRow_nil w base e 1
theorem Own.at {w : World} {base : Nat} {e : TypeId} {k : IntKind} {v : Value} {l : List Nat} (h : Own w base e k v l) : At w k v l := by
  have h' := h
  unfold Own at h'
  rcases h'.2 with ⟨rfl, h0⟩ | ⟨g, cap, cur, rfl, _, hg, hn, hm, _, _⟩
  · obtain rfl := List.eq_nil_of_length_eq_zero h0
    exact At.nil w k
  · refine ⟨_, cap, rfl, hn, hm, fun h => (by cases h), fun _ => ⟨g, 0, rfl, (Array.getElem?_eq_some_iff.1 hg).1, fun i hi => ?_⟩⟩
    have := World.ownsRow.cellAt h' i (by omega)
    rw [Nat.zero_add, this]
    simp [ints, hi]
theorem Own.kept {w w' : World} {base : Nat} {e : TypeId} {k : IntKind} {v : Value} {l : List Nat} (h : Own w base e k v l) (hb : Below w.heap.size w w') : Own w' base e k v l := by
  refine ⟨h.1, ?_⟩
  rcases h.2 with hn | ⟨g, cap, cur, rfl, h1, hg, r⟩
  · exact Or.inl hn
  · exact Or.inr ⟨g, cap, cur, rfl, h1, by rw [hb.block g (Array.getElem?_eq_some_iff.1 hg).1]; exact hg, r⟩
theorem Own.alloc {w : World} {base : Nat} {e : TypeId} {k : IntKind} {v : Value} {l : List Nat} (h : Own w base e k v l) (o : Obj) : Own (w.alloc o) base e k v l := h.kept (below1 w o)
theorem Own.mono {w : World} {base base' : Nat} {e : TypeId} {k : IntKind} {v : Value} {l : List Nat} (h : Own w base e k v l) (hb : base' ≤ base) : Own w base' e k v l := by
  refine ⟨h.1, ?_⟩
  rcases h.2 with hn | ⟨g, cap, cur, rfl, h1, r⟩
  · exact Or.inl hn
  · exact Or.inr ⟨g, cap, cur, rfl, Nat.le_trans hb h1, r⟩
/-- a row that is written is one of the call's own -/
theorem Own.row {w : World} {base : Nat} {e : TypeId} {k : IntKind} {v : Value} {l : List Nat} (h : Own w base e k v l) : ∀ g, v.ownBlock = some g → base ≤ g := fun g hg => (World.ownsRow.lt h g hg).1
/-- a cut at the end -/
theorem Own.take {w : World} {base : Nat} {e : TypeId} {k : IntKind} {p : Option Addr} {n cap : Nat} {l : List Nat} (h : Own w base e k (.slice p n cap) l) (m : Nat) (hm : m ≤ l.length) : Own w base e k (.slice p m cap) (l.take m) := by
  have hl : (l.take m).length = m := by simp [Nat.min_eq_left hm]
  unfold Own at h ⊢
  rw [hl]
  refine ⟨by simp [ints_length, hl], ?_⟩
  rcases h.2 with ⟨h1, h2⟩ | ⟨g, c, cur, h1, h2, h3, h4, h5, h6, h7⟩
  · cases h1; exact Or.inl ⟨by rw [show m = 0 by omega], by omega⟩
  · cases h1
    refine Or.inr ⟨g, cap, cur, rfl, h2, h3, by omega, h5, h6, ?_⟩
    have : (ints k l).take m = ints k (l.take m) := by simp [ints, List.map_take]
    rw [← this, ← h7, List.take_take]
    congr 1; omega

/-- what a call answers: a slice of numbers l in memory of its own -/
def ROwn (e : TypeId) (k : IntKind) (l : List Nat) (w : World) (en : Ending) (w' : World) : Prop := ∃ v', en = .returned v' ∧ Own w' w.heap.size e k v' l ∧ Below w.heap.size w w'
theorem elemNat : Elem Tryd.prog 30 68 .u64 8 := ⟨Tryd.underlying30, info_parts (by kernel_rfl)⟩
theorem elemInts : Elem Tryd.prog 55 3 .i64 8 := ⟨Tryd.underlying55, info_parts (by kernel_rfl)⟩

section
variable {P : Program} {w : World} {ops : Array Oper} {rest : List Oper} {o : Oper} {a : Act} {Q : Exit → Act → World → Prop}

/-- 'append(v, x...)': v the call's own, x whatever slice of numbers -/
theorem wpList_append_at (hgd : o.guard = none) (s x : Operand) (t : TypeId)
    (ho : o.op = .call { callee := .builtin .append, args := #[s, x], argTypes := #[t, t] })
    {e : TypeId} {k : IntKind} {size : Nat} (E : Elem P t e k size) (base : Nat) (v : Value) (l : List Nat) (hs : a.eval s = v) (hown : Own w base e k v l)
    (vx : Value) (m : List Nat) (hx : a.eval x = vx) (hat : At w k vx m)
    (hlen : l.length + m.length ≤ maxLen) (hbytes : (l.length + m.length) * size ≤ 140737488355328) (hbase : base ≤ w.heap.size)
    (h : ∀ v' w', Own w' base e k v' (l ++ m) → Below base w w' → w.heap.size ≤ w'.heap.size → wpList P ops Q rest (a.put o.dst v') w') : wpList P ops Q (o :: rest) a w := by
  obtain ⟨i, hi, hz, hsz, hby⟩ := E.row
  obtain ⟨p, cap, rfl, h1, h2, h3, h4⟩ := hat
  cases p with
  | none =>
    obtain rfl := h3 rfl
    obtain rfl : m = [] := List.eq_nil_of_length_eq_zero (by omega)
    exact wpList_append_own_none hgd s x t ho base e i 1 E.und hi v l.length (ints k l) hs hown hx (h _ _ (by rw [List.append_nil]; exact hown) (Below.refl _ _) (Nat.le_refl _))
  | some ad =>
    refine wpList_append_own w hgd s x t ho base e i (.int k 0) 1 size E.und hi hz hsz hby rfl (by decide) v l.length (ints k l) hs hown ad m.length cap (ints k m) hx (by simp [ints_length]) ?_ ?_ hlen hbytes hbase ?_
    · intro j u hj
      by_cases hjm : j < m.length
      · obtain ⟨b, off, he, hb, hc⟩ := h4 (by omega)
        cases he
        rw [Go.WideShapes.add_plain, hc j hjm]
        simpa [ints, hjm] using hj
      · rw [List.getElem?_eq_none (by rw [ints_length]; omega)] at hj; cases hj
    · intro u hu
      obtain ⟨n, _, rfl⟩ := List.mem_map.1 hu
      rfl
    · intro v' w' h5 h6 _
      refine h v' w' ?_ ((Below.refl _ _).grown h6 hbase hown.row) h6.size
      unfold Own
      rw [List.length_append, ints_append]; exact h5

/-- 'make([]T, 0, n)' -/
theorem wpList_make_at (hg : o.guard = none) (l c : Operand) (t : TypeId) (hop : o.op = Op.makeSlice t l c)
    {e : TypeId} {k : IntKind} {size : Nat} (E : Elem P t e k size) (base : Nat)
    (kl kc : IntKind) (C : Int) (n : Nat) (hl : a.eval l = .int kl 0) (hc : a.eval c = .int kc C) (hC : C = (n : Int)) (b2 : size * n ≤ 281474976710656) (b3 : n ≤ maxLen) (b4 : base ≤ w.heap.size)
    (hK : ∀ v w', Own w' base e k v [] → Below base w w' → w.heap.size ≤ w'.heap.size → v = (.slice (some ⟨w.heap.size, 0, none⟩) 0 n) → wpList P ops Q rest (a.put o.dst v) w') :
    wpList P ops Q (o :: rest) a w := by
  obtain ⟨i, hi, hz, hsz, hby⟩ := E.row
  subst hby
  exact wpList_make_own w hg l c t hop base e i (.int k 0) 1 E.und hi hz hsz kl kc C n hl hc hC b2 b3 b4 fun w' h1 h2 => hK _ w' h1 ((Below.refl _ _).grown h2 b4 (fun _ h => by cases h)) h2.size rfl

end

end Go.Proofs.YtlffiomlpkopbaaDoor
/- whole.own, whole.plus: sums of words with carries. -/
namespace Go.Proofs.YtlffiomlpkopbaaDoor
open Go.RowKit Big

set_option maxHeartbeats 400000 in
theorem own_any (v : Value) (l : List Nat) (w : World) (h : At w .u64 v l) (hl : l.length ≤ 1099511627776) :
    Calls Tryd.prog 49 #[v] w (ROwn 68 .u64 (strip l) w) := by
  have hs := strip_length l
  go_enter Tryd.func49, Tryd.ntmps49
  go_wp2_with (first
    | (go_at_call 34; refine (trim_any _ l _ h).mono ?_; rintro e w' ⟨v', rfl, hv', rfl⟩)
    | (at_builtin; refine wpList_append_at rfl _ _ 30 rfl elemNat w.heap.size _ [] rfl (Own.nil _ _ _ _) _ (strip l) rfl hv' (by simp [maxLen]; omega) (by simp; omega) (Nat.le_refl _) ?_; intro v2 w2 ho hb _))
  go_ret
  exact ⟨_, rfl, by simpa using ho, hb⟩


def RPlus (l0 l1 : List Nat) (w : World) (e : Ending) (w' : World) : Prop := ∃ l c, Small W l ∧ l.length = l0.length ∧ c ≤ 1 ∧ val W l + c * W ^ l0.length = val W l0 + val W l1 ∧
      ROwn 68 .u64 (if c = 0 then l else l ++ [c]) w e w'
end Go.Proofs.YtlffiomlpkopbaaDoor
/- whole.minus: differences of words with borrows. -/
namespace Go.Proofs.YtlffiomlpkopbaaDoor
open Go.RowKit Big

end Go.Proofs.YtlffiomlpkopbaaDoor
/- whole.compare: the order of sizes. -/
namespace Go.Proofs.YtlffiomlpkopbaaDoor
open Go.RowKit Big

def ord (a b : Int) : Int := if a < b then -1 else if b < a then 1 else 0
theorem ord_lt {a b : Int} (h : a < b) : ord a b = -1 := by simp [ord, h]
theorem ord_gt {a b : Int} (h : b < a) : ord a b = 1 := by simp [ord, h]; omega
theorem ord_eq (a : Int) : ord a a = 0 := by simp [ord]

theorem cmpInt_any (a b : Int) (w : World) :
    Calls Tryd.prog 32 #[.int .i64 a, .int .i64 b] w fun e w' => e = .returned (.int .i64 (ord a b)) ∧ w' = w := by
  rcases Int.lt_trichotomy a b with h | h | h
  · rw [ord_lt h]
    go_enter Tryd.func32, Tryd.ntmps32
    go_wp2
    go_ret
    exact ⟨rfl, rfl⟩
  · subst h
    rw [ord_eq]
    go_enter Tryd.func32, Tryd.ntmps32
    go_wp2
    go_ret
    exact ⟨rfl, rfl⟩
  · have h' : ¬ a < b := by omega
    rw [ord_gt h]
    go_enter Tryd.func32, Tryd.ntmps32
    go_wp2
    go_ret
    exact ⟨rfl, rfl⟩
theorem cmpWord_any (a b : Int) (w : World) :
    Calls Tryd.prog 46 #[.int .u64 a, .int .u64 b] w fun e w' => e = .returned (.int .i64 (ord a b)) ∧ w' = w := by
  rcases Int.lt_trichotomy a b with h | h | h
  · rw [ord_lt h]
    go_enter Tryd.func46, Tryd.ntmps46
    go_wp2
    go_ret
    exact ⟨rfl, rfl⟩
  · subst h
    rw [ord_eq]
    go_enter Tryd.func46, Tryd.ntmps46
    go_wp2
    go_ret
    exact ⟨rfl, rfl⟩
  · have h' : ¬ a < b := by omega
    rw [ord_gt h]
    go_enter Tryd.func46, Tryd.ntmps46
    go_wp2
    go_ret
    exact ⟨rfl, rfl⟩

theorem drawn_more {w wr : World} {n : Nat} (h : ∃ j, wr = w.drewN j) : ∃ j, wr.drewN n = w.drewN j := by
  obtain ⟨j, rfl⟩ := h
  exact ⟨j + n, by rw [World.drewN_drewN]⟩
def ROrd (z : Int) (w : World) (e : Ending) (w' : World) : Prop := e = .returned (.int .i64 z) ∧ ∃ k, w' = w.drewN k

/-- the order, seen at the highest digits that part -/
theorem ord_part {l0 l1 : List Nat} {n m : Nat} (s0 : Small W l0) (s1 : Small W l1) (h0 : val W l0 = n) (h1 : val W l1 = m) {k : Nat} (hk0 : k < l0.length) (hk1 : k < l1.length)
    (hd : l0.drop (k + 1) = l1.drop (k + 1)) (hne : l0[k] ≠ l1[k]) : ord (l0[k] : Nat) (l1[k] : Nat) = ord n m := by
  rcases Nat.lt_or_ge l0[k] l1[k] with h | h
  · have := val_lt_of_part s0 hk0 hk1 hd h
    rw [ord_lt (by omega), ord_lt (by omega)]
  · have := val_lt_of_part s1 hk1 hk0 hd.symm (show l1[k] < l0[k] by omega)
    rw [ord_gt (by omega), ord_gt (by omega)]

set_option maxRecDepth 100000 in
set_option maxHeartbeats 800000 in
theorem compare_any (v0 v1 : Value) (n m : Nat) (w : World) (h0 : At w .u64 v0 (dig W n)) (h1 : At w .u64 v1 (dig W m)) :
    Calls Tryd.prog 33 #[v0, v1] w (ROrd (ord n m) w) := by
  have s0 := small_dig W2 n
  have s1 := small_dig W2 m
  have k1 : (dig W n).length < (dig W m).length → n < m := lt_of_sz_lt W2
  have k2 : (dig W m).length < (dig W n).length → m < n := lt_of_sz_lt W2
  have hv0 := val_dig W2 n
  have hv1 := val_dig W2 m
  generalize dig W n = l0 at *
  generalize dig W m = l1 at *
  have Hv0 := hid hv0; clear hv0
  have Hv1 := hid hv1; clear hv1
  obtain ⟨p0, c0, rfl, a1, a2, a3, a4⟩ := h0
  obtain ⟨p1, c1, rfl, b1, b2, b3, b4⟩ := h1
  unfold maxLen at a2 b2
  by_cases hl : l0.length = l1.length
  · have Hl := hid hl
    rw [hl] at a1 ⊢; clear hl
    go_enter Tryd.func33, Tryd.ntmps33
    go_wp2_with fail
    go_loopw [5] (fun i wr => ∃ (k : Nat), k ≤ l1.length ∧ i = .int .i64 ((k : Int) - 1) ∧ Hid (l0.drop k = l1.drop k) ∧ Hid (∃ j, wr = w.drewN j)) (fun i _ => (intOf i + 1).toNat)
    case atStart => exact ⟨l1.length, Nat.le_refl _, rfl, by unfold Hid; rw [List.drop_length, ← Hl.out, List.drop_length], 0, rfl⟩
    case round =>
      obtain ⟨k, hk, rfl, hd, Hw⟩ := hrel
      by_cases hk0 : 0 < k
      · obtain ⟨k, rfl⟩ : ∃ k', k = k' + 1 := ⟨k - 1, by omega⟩
        have hkl : k < l0.length := by rw [Hl.out]; omega
        obtain ⟨b, off, rfl, hbb, hc0⟩ := a4 (Nat.lt_of_le_of_lt (Nat.zero_le _) hkl)
        obtain ⟨b', off', rfl, hbb', hc1⟩ := b4 (by omega)
        have e0 : wr.cell? ⟨b, off + k, none⟩ = some (.int .u64 (l0[k] : Nat)) := by obtain ⟨j, rfl⟩ := Hw.out; exact hc0 k hkl
        have e1 : wr.cell? ⟨b', off' + k, none⟩ = some (.int .u64 (l1[k] : Nat)) := by obtain ⟨j, rfl⟩ := Hw.out; exact hc1 k (by omega)
        have ep := ord_part s0 s1 Hv0.out Hv1.out hkl (show k < l1.length by omega) hd.out
        have es : l0[k] = l1[k] → l0.drop k = l1.drop k := fun h => by
          rw [List.drop_eq_getElem_cons hkl, List.drop_eq_getElem_cons (show k < l1.length by omega), h, hd.out]
        generalize l0[k] = x at *
        generalize l1[k] = y at *
        have Ep := hid ep
        have Es : Hid (x = y → l0.drop k = l1.drop k) := es
        clear a4 b4 hc0 hc1 ep es hbb hbb' s0 s1 k1 k2
        have hlow : (0 : Int) ≤ (k : Int) + 1 - 1 := by omega
        have hsp : (k : Int) + 1 - 1 = (k : Int) := by omega
        by_cases hxy : x = y
        · subst hxy
          go_wp2
          go_quiet (fail)
          go_wp2
          go_roundw
          case rel => exact ⟨k, by omega, rfl, Es.out (by trivial), drawn_more Hw.out⟩
          case measure => simp [intOf]
        · have hb : ((x : Int) != (y : Int)) = true := bne_iff_ne.2 (fun h => hxy (by omega))
          go_wp2
          go_quiet (fail)
          go_wp2
          go_quiet ((go_at_call 46; exact quiet_add_same (cmpWord_any _ _ _)))
          go_wp2
          go_ret
          exact ⟨by rw [← Ep.out (fun h => hxy h)]; rfl, drawn_more (drawn_more Hw.out)⟩
      · obtain rfl : k = 0 := by omega
        have hn : ord n m = 0 := by
          have h := hd.out
          rw [List.drop_zero, List.drop_zero] at h
          rw [← Hv0.out, ← Hv1.out, h]; exact ord_eq _
        have Hn := hid hn
        clear hn a4 b4 k1 k2 hd
        go_wp2
        go_ret
        exact ⟨by rw [Hn.out]; rfl, Hw.out⟩
  · have hn : (l0.length < l1.length ∧ ord l0.length l1.length = ord n m) ∨ (l1.length < l0.length ∧ ord l0.length l1.length = ord n m) := by
      rcases Nat.lt_or_ge l0.length l1.length with h | h
      · exact Or.inl ⟨h, by have := k1 h; rw [ord_lt (by omega), ord_lt (by omega)]⟩
      · exact Or.inr ⟨by omega, by have := k2 (by omega); rw [ord_gt (by omega), ord_gt (by omega)]⟩
    have Hn : Hid (ord l0.length l1.length = ord n m) := by rcases hn with h | h <;> exact h.2
    clear hn a4 b4 k1 k2
    have hb : ((l0.length : Int) != (l1.length : Int)) = true := bne_iff_ne.2 (by omega)
    go_enter Tryd.func33, Tryd.ntmps33
    go_wp2_with (go_at_call 32; refine (cmpInt_any _ _ _).mono ?_; rintro e w' ⟨rfl, rfl⟩)
    go_ret
    exact ⟨by rw [← Hn.out]; rfl, 0, rfl⟩
end Go.Proofs.YtlffiomlpkopbaaDoor
/- Small facts on new blocks. -/
namespace Go.Proofs.YtlffiomlpkopbaaDoor
open Go.RowKit Big
theorem size_alloc (w : World) (o : Obj) : (w.alloc o).heap.size = w.heap.size + 1 := by simp
theorem heap_new2 (w : World) (o1 o2 : Obj) : ((w.alloc o1).alloc o2).drew.heap[w.heap.size + 1]? = some o2 := by
  have := heap_alloc_new (w.alloc o1) o2
  rwa [size_alloc] at this
theorem two_cells {w : World} {g : Nat} {a b : Value} {t : TypeId} (h : w.heap[g]? = some (.cells #[a, b] t (0, 0))) :
    w.cell? ⟨g, 0, none⟩ = some a ∧ w.cell? ⟨g, 1, none⟩ = some b ∧ w.frozen? ⟨g, 0, none⟩ = false ∧ w.frozen? ⟨g, 1, none⟩ = false :=
  ⟨by rw [cell_of_row w g 0 _ t (0, 0) h]; rfl, by rw [cell_of_row w g 1 _ t (0, 0) h]; rfl, frozen_of_row w g 0 _ t h, frozen_of_row w g 1 _ t h⟩
/-- block g is a variable that holds a whole number: a bool and a slice -/
def Pair (w : World) (g : Nat) (t : TypeId) : Prop := ∃ x p n c, w.heap[g]? = some (.cells #[.bool x, .slice p n c] t (0, 0))
theorem Pair.cells {w : World} {g : Nat} {t : TypeId} (h : Pair w g t) : ∃ a b, w.cell? ⟨g, 0, none⟩ = some a ∧ w.cell? ⟨g, 1, none⟩ = some b ∧ w.frozen? ⟨g, 0, none⟩ = false ∧ w.frozen? ⟨g, 1, none⟩ = false := by
  obtain ⟨x, p, n, c, h⟩ := h
  exact ⟨_, _, two_cells h⟩
theorem Pair.below {w w' : World} {g : Nat} {t : TypeId} (h : Pair w g t) (hb : Below w.heap.size w w') : Pair w' g t := by
  obtain ⟨x, p, n, c, h⟩ := h
  exact ⟨x, p, n, c, (hb.block g (Array.getElem?_eq_some_iff.1 h).1).trans h⟩
theorem Pair.lt {w : World} {g : Nat} {t : TypeId} (h : Pair w g t) : g < w.heap.size := by
  obtain ⟨x, p, n, c, h⟩ := h
  exact (Array.getElem?_eq_some_iff.1 h).1
theorem Pair.set0 {w : World} {g : Nat} {t : TypeId} (h : Pair w g t) (x : Bool) : Pair (w.setCell ⟨g, 0, none⟩ (.bool x)) g t := by
  obtain ⟨y, p, n, c, h⟩ := h
  exact ⟨x, p, n, c, heap_setCell_same w g 0 _ t _ h⟩
theorem Pair.set1 {w : World} {g : Nat} {t : TypeId} (h : Pair w g t) (p : Option Addr) (n c : Nat) : Pair (w.setCell ⟨g, 1, none⟩ (.slice p n c)) g t := by
  obtain ⟨y, p', n', c', h⟩ := h
  exact ⟨y, p, n, c, heap_setCell_same w g 1 _ t _ h⟩
theorem Pair.drew {w : World} {g : Nat} {t : TypeId} (h : Pair w g t) : Pair w.drew g t := h
theorem Pair.new (w : World) (x : Bool) (p : Option Addr) (n c : Nat) (t : TypeId) : Pair (w.alloc (.cells #[.bool x, .slice p n c] t)) w.heap.size t := ⟨x, p, n, c, heap_alloc_new w _⟩
theorem Pair.new1 (w : World) (o : Obj) (x : Bool) (p : Option Addr) (n c : Nat) (t : TypeId) : Pair ((w.alloc o).alloc (.cells #[.bool x, .slice p n c] t)) (w.heap.size + 1) t := by
  have := Pair.new (w.alloc o) x p n c t
  rwa [size_alloc] at this
theorem Pair.new2 (w : World) (o o' : Obj) (x : Bool) (p : Option Addr) (n c : Nat) (t : TypeId) : Pair (((w.alloc o).alloc o').alloc (.cells #[.bool x, .slice p n c] t)) (w.heap.size + 2) t := by
  have := Pair.new ((w.alloc o).alloc o') x p n c t
  rwa [size_alloc, size_alloc] at this
/-- a store into such a variable turns no slice of numbers -/
theorem At.set {w : World} {k : IntKind} {v : Value} {l : List Nat} {g : Nat} {t : TypeId} (h : At w k v l) (hp : Pair w g t) (j : Nat) (u : Value) : At (w.setCell ⟨g, j, none⟩ u) k v l := by
  obtain ⟨p, cap, hv, h1, h2, h3, h4⟩ := h
  refine ⟨p, cap, hv, h1, h2, h3, fun hl => ?_⟩
  obtain ⟨b, off, h5, h6, h7⟩ := h4 hl
  have hne : b ≠ g := by
    rintro rfl
    obtain ⟨x, q, n, c, hh⟩ := hp
    have h0 := h7 0 hl
    rw [cell_of_row w b (off + 0) _ t (0, 0) hh] at h0
    rcases (by omega : off = 0 ∨ off = 1 ∨ 2 ≤ off) with e | e | e
    · subst e; simp at h0
    · subst e; simp at h0
    · rw [Array.getElem?_eq_none (by simpa using e)] at h0; cases h0
  refine ⟨b, off, h5, by simpa [World.setCell] using h6, fun i hi => ?_⟩
  rw [← h7 i hi]
  exact World.cell?_of_block (w := w) (Below.heap_setCell w _ u b hne)
theorem At.stored {w : World} {k : IntKind} {v : Value} {l : List Nat} {g : Nat} {t : TypeId} (h : At w k v l) (hp : Pair w g t) (x : Bool) (p : Option Addr) (n c : Nat) :
    At ((w.setCell ⟨g, 0, none⟩ (.bool x)).setCell ⟨g, 1, none⟩ (.slice p n c)) k v l := (h.set hp 0 _).set (hp.set0 x) 1 _
theorem IntAt.stored {w : World} {v : Value} {z : Int} {g : Nat} {t : TypeId} (h : IntAt w v z) (hp : Pair w g t) (x : Bool) (p : Option Addr) (n c : Nat) :
    IntAt ((w.setCell ⟨g, 0, none⟩ (.bool x)).setCell ⟨g, 1, none⟩ (.slice p n c)) v z := by
  obtain ⟨s, hs, ha⟩ := h
  exact ⟨s, hs, ha.stored hp x p n c⟩
theorem Below.stored {B : Nat} {w w' : World} (h : Below B w w') {g : Nat} (hg : B ≤ g) (u u' : Value) : Below B w ((w'.setCell ⟨g, 0, none⟩ u).setCell ⟨g, 1, none⟩ u') :=
  (h.setCell (p := ⟨g, 0, none⟩) hg u).setCell (p := ⟨g, 1, none⟩) hg u'
theorem IntAt.shape {w : World} {v : Value} {z : Int} (h : IntAt w v z) : ∃ p n c, v = .agg #[.bool (decide (z < 0)), .slice p n c] ∧ IntAt w (.agg #[.bool (decide (z < 0)), .slice p n c]) z := by
  obtain ⟨s, rfl, p, c, rfl, r⟩ := h
  exact ⟨p, _, c, rfl, _, rfl, p, c, rfl, r⟩
theorem At.oneI (w : World) (k : IntKind) (e : Int) (x : Nat) (t : TypeId) (h : e = (x : Int)) : At (w.alloc (.cells #[.int k e] t)) k (.slice (some ⟨w.heap.size, 0, none⟩) 1 1) [x] := by
  subst h; exact At.one w k x t
theorem cell_stored (w : World) {g : Nat} {p : Addr} (h : p.block ≠ g) (u u' : Value) : ((w.setCell ⟨g, 0, none⟩ u).setCell ⟨g, 1, none⟩ u').cell? p = w.cell? p :=
  World.cell?_of_block (w := w) ((Below.heap_setCell _ _ _ _ h).trans (Below.heap_setCell _ _ _ _ h))
/-- the cells of two variables that a call has laid for its arguments -/
structure Two (w : World) (g : Nat) (a b c d : Value) : Prop where
  c00 : w.cell? ⟨g, 0, none⟩ = some a
  c01 : w.cell? ⟨g, 1, none⟩ = some b
  c10 : w.cell? ⟨g + 1, 0, none⟩ = some c
  c11 : w.cell? ⟨g + 1, 1, none⟩ = some d
  lt : g + 2 ≤ w.heap.size
theorem Two.new (w : World) (a b c d : Value) (t : TypeId) : Two ((w.alloc (.cells #[a, b] t)).alloc (.cells #[c, d] t)) w.heap.size a b c d := by
  have h0 : ((w.alloc (.cells #[a, b] t)).alloc (.cells #[c, d] t)).heap[w.heap.size]? = some (.cells #[a, b] t (0, 0)) := by
    rw [heap_alloc_old _ _ (by simp)]; exact heap_alloc_new w _
  have h1 : ((w.alloc (.cells #[a, b] t)).alloc (.cells #[c, d] t)).heap[w.heap.size + 1]? = some (.cells #[c, d] t (0, 0)) := heap_new2 w _ _
  exact ⟨(two_cells h0).1, (two_cells h0).2.1, (two_cells h1).1, (two_cells h1).2.1, by simp⟩
theorem Two.below {w w' : World} {g : Nat} {a b c d : Value} (h : Two w g a b c d) (hb : Below w.heap.size w w') : Two w' g a b c d :=
  ⟨(hb.cell (p := ⟨g, 0, none⟩) (by have := h.lt; show g < _; omega)).trans h.c00, (hb.cell (p := ⟨g, 1, none⟩) (by have := h.lt; show g < _; omega)).trans h.c01,
   (hb.cell (p := ⟨g + 1, 0, none⟩) (by have := h.lt; show g + 1 < _; omega)).trans h.c10, (hb.cell (p := ⟨g + 1, 1, none⟩) (by have := h.lt; show g + 1 < _; omega)).trans h.c11, Nat.le_trans h.lt hb.size⟩
end Go.Proofs.YtlffiomlpkopbaaDoor
/- whole.Norm, Neg, Sign, Cmp, Add, Sub. -/
namespace Go.Proofs.YtlffiomlpkopbaaDoor
open Go.RowKit Big

set_option maxHeartbeats 800000 in
theorem Norm_any (v : Value) (z : Int) (w : World) (h : RawAt w v z) : Calls Tryd.prog 38 #[v] w (RInt z w) := by
  obtain ⟨neg, s, l, rfl, ha, hs, hl, rfl⟩ := h
  have Hs := hid (strip_dig W2 hs)
  go_enter Tryd.func38, Tryd.ntmps38
  go_wp2_with fail
  go_region_held3 (fun w' => w'.cell? ⟨w.heap.size, 0, none⟩ = some (.bool neg) ∧ w'.cell? ⟨w.heap.size, 1, none⟩ = some s ∧ Pair w' (w.heap.size + 1) 32)
    (first | (go_split_ands; (try dsimp only); (repeat' apply And.intro) <;> first | assumption | exact Pair.drew ‹_› | exact Pair.below ‹_› hb9 | exact Pair.below ‹_› hb8 | exact Pair.below ‹_› hb7 | exact Pair.below ‹_› hb6 | exact Pair.below ‹_› hb5 | exact Pair.below ‹_› hb4 | exact Pair.below ‹_› hb3 | exact Pair.below ‹_› hb2 | exact Pair.below ‹_› hb1 | exact (hb9.cell (by first | omega | (simp; omega) | (simp; done))).trans ‹_› | exact (hb8.cell (by first | omega | (simp; omega) | (simp; done))).trans ‹_› | exact (hb7.cell (by first | omega | (simp; omega) | (simp; done))).trans ‹_› | exact (hb6.cell (by first | omega | (simp; omega) | (simp; done))).trans ‹_› | exact (hb5.cell (by first | omega | (simp; omega) | (simp; done))).trans ‹_› | exact (hb4.cell (by first | omega | (simp; omega) | (simp; done))).trans ‹_› | exact (hb3.cell (by first | omega | (simp; omega) | (simp; done))).trans ‹_› | exact (hb2.cell (by first | omega | (simp; omega) | (simp; done))).trans ‹_› | exact (hb1.cell (by first | omega | (simp; omega) | (simp; done))).trans ‹_› | exact Pair.set1 (Pair.set0 ‹_› _) _ _ _ | exact (cell_stored _ (by first | (dsimp only; omega) | (simp; done) | (simp; omega)) _ _).trans ‹_› | exact Pair.drew (Pair.below ‹_› (below1 _ _)) | exact Pair.below ‹_› (below1 _ _) | exact Pair.far ‹_› (by omega) hb1 | exact Pair.new .. | exact Pair.new1 .. | exact Pair.new2 .. | (go_keep; done)) | (go_keep; done))
    (first
      | (go_at_call 49; refine (own_any s l _ ?_ hl).mono ?_; (repeat (first | exact ha | apply At.drew | apply At.alloc)); rintro e w1 ⟨v1, rfl, ho1, hb1⟩; have hz1 : w.heap.size + 2 ≤ w1.heap.size := (by have := hb1.size; simp at this; omega))
      | (go_at_call 48; refine (told_any neg _ _ _ (by rw [← Hs.out]; exact ho1.at)).mono ?_; rintro e w2 ⟨v2, rfl, hi2, hb2⟩; obtain ⟨p2, n2, c2, rfl, hi2⟩ := hi2.shape; have hpr := Pair.below (by go_split_ands; assumption) hb2; obtain ⟨_, _, q0, q1, q2, q3⟩ := hpr.cells))
  go_wp2
  exact bodyPost_ret (v := .agg #[.bool (decide (sg neg (val W l) < 0)), .slice p2 n2 c2]) (by simp [results, Tryd.results38, go_sem, q0, q1]) rfl
    ⟨_, rfl, hi2.stored hpr _ _ _ _, Below.stored ((((below1 _ _).alloc (by simp) _).drew.trans (hb1.mono (B' := w.heap.size) (by simp; omega))).trans (hb2.mono (B' := w.heap.size) (by omega))) (by omega) _ _⟩
end Go.Proofs.YtlffiomlpkopbaaDoor
/- whole.Neg, Sign, Cmp, Add, Sub. -/
namespace Go.Proofs.YtlffiomlpkopbaaDoor
open Go.RowKit Big


theorem sign_sg (neg : Bool) (n : Nat) : (sg neg n).sign = if n = 0 then 0 else if neg then -1 else 1 := by
  unfold sg
  by_cases h : n = 0
  · subst h; cases neg <;> simp
  · rw [if_neg h]
    cases neg
    · simp only [Bool.false_eq_true, if_false]; exact Int.sign_eq_one_of_pos (by omega)
    · simp only [if_true]; exact Int.sign_eq_neg_one_of_neg (by omega)

set_option maxHeartbeats 800000 in
theorem Sign_any (v : Value) (z : Int) (w : World) (h : RawAt w v z) : Calls Tryd.prog 31 #[v] w (fun e w' => e = .returned (.int .i64 z.sign) ∧ Below w.heap.size w w') := by
  obtain ⟨neg, s, l, rfl, ha, hs, hl, rfl⟩ := h
  have Hs := hid (strip_dig W2 hs)
  have Hz := hid (sign_sg neg (val W l))
  have ht : ∀ o, Calls Tryd.prog 34 #[s] (w.alloc o) (fun e w' => e = .returned (cutTo s (strip l).length) ∧ w' = w.alloc o) := fun o => trim_val s l _ (ha.alloc o)
  have Ht := hid ht; clear ht
  obtain ⟨p, c, rfl, -⟩ := ha
  obtain ⟨n, hn⟩ : ∃ n, n = val W l := ⟨_, rfl⟩
  obtain ⟨m, hm⟩ : ∃ m, m = (strip l).length := ⟨_, rfl⟩
  have hmn : m = 0 ↔ n = 0 := by rw [hm, Hs.out, ← hn]; exact sz_eq_zero W2
  rw [← hn] at Hz ⊢
  rw [← hm] at Ht
  clear hm hn
  obtain ⟨z, hz⟩ : ∃ z, z = (sg neg n).sign := ⟨_, rfl⟩
  rw [← hz] at Hz ⊢
  clear hz
  by_cases h0 : m = 0
  · have hz : z = 0 := by rw [Hz.out, if_pos (hmn.1 h0)]
    subst hz
    subst h0
    go_enter Tryd.func31, Tryd.ntmps31
    go_wp2_with (go_at_call 34; refine (Ht.out _).mono ?_; rintro e w' ⟨rfl, rfl⟩; simp only [cutTo])
    go_ret
    exact ⟨rfl, below1 _ _⟩
  · have hz : z = if neg then -1 else 1 := by rw [Hz.out, if_neg (fun e => h0 (hmn.2 e))]
    have hb : ((m : Int) == 0) = false := beq_eq_false_iff_ne.2 (by omega)
    cases neg
    · simp only [Bool.false_eq_true, if_false] at hz
      subst hz
      go_enter Tryd.func31, Tryd.ntmps31
      go_wp2_with (go_at_call 34; refine (Ht.out _).mono ?_; rintro e w' ⟨rfl, rfl⟩; simp only [cutTo])
      go_ret
      exact ⟨rfl, below1 _ _⟩
    · simp only [if_true] at hz
      subst hz
      go_enter Tryd.func31, Tryd.ntmps31
      go_wp2_with (go_at_call 34; refine (Ht.out _).mono ?_; rintro e w' ⟨rfl, rfl⟩; simp only [cutTo])
      go_ret
      exact ⟨rfl, below1 _ _⟩

end Go.Proofs.YtlffiomlpkopbaaDoor
/- whole.told, whole.Norm: what they tell lies in memory of its own. -/
namespace Go.Proofs.YtlffiomlpkopbaaDoor
open Go.RowKit Big

/-- a whole number as it is told, its words a row from block B on -/
def IntOwn (w : World) (B : Nat) (v : Value) (z : Int) : Prop := ∃ s, v = .agg #[.bool (decide (z < 0)), s] ∧ Own w B 68 .u64 s (dig W z.natAbs)
theorem IntOwn.told {w : World} {B : Nat} {v : Value} {z : Int} (h : IntOwn w B v z) : IntAt w v z := by
  obtain ⟨s, rfl, h⟩ := h
  exact ⟨s, rfl, h.at⟩
theorem IntOwn.kept {w w' : World} {B : Nat} {v : Value} {z : Int} (h : IntOwn w B v z) (hb : Below w.heap.size w w') : IntOwn w' B v z := by
  obtain ⟨s, rfl, h⟩ := h
  exact ⟨s, rfl, h.kept hb⟩
theorem IntOwn.mono {w : World} {B B' : Nat} {v : Value} {z : Int} (h : IntOwn w B v z) (hb : B' ≤ B) : IntOwn w B' v z := by
  obtain ⟨s, rfl, h⟩ := h
  exact ⟨s, rfl, h.mono hb⟩
theorem IntOwn.zero (w : World) (B : Nat) : IntOwn w B (.agg #[.bool false, .slice none 0 0]) 0 := ⟨_, by simp, Own.nil w B _ _⟩
theorem IntOwn.mk {w : World} {B : Nat} {neg : Bool} {s : Value} {n : Nat} (h0 : n ≠ 0) (h : Own w B 68 .u64 s (dig W n)) : IntOwn w B (.agg #[.bool neg, s]) (sg neg n) :=
  ⟨s, by rw [sg_neg neg n h0], by rw [sg_natAbs]; exact h⟩
theorem IntOwn.shape {w : World} {B : Nat} {v : Value} {z : Int} (h : IntOwn w B v z) : ∃ p n c, v = .agg #[.bool (decide (z < 0)), .slice p n c] ∧ IntOwn w B (.agg #[.bool (decide (z < 0)), .slice p n c]) z := by
  have h1 := h.told
  obtain ⟨p, n, c, rfl, -⟩ := h1.shape
  exact ⟨p, n, c, rfl, h⟩
theorem IntOwn.stored {w : World} {B : Nat} {v : Value} {z : Int} {g : Nat} (h : IntOwn w B v z) (hg : g < B) (u u' : Value) :
    IntOwn ((w.setCell ⟨g, 0, none⟩ u).setCell ⟨g, 1, none⟩ u') B v z := by
  obtain ⟨s, rfl, h⟩ := h
  exact ⟨s, rfl, ownsRow_setCell_below (ownsRow_setCell_below h (a := ⟨g, 0, none⟩) hg u) (a := ⟨g, 1, none⟩) hg u'⟩

set_option maxHeartbeats 400000 in
theorem told_own (neg : Bool) (s : Value) (n B : Nat) (w : World) (h : Own w B 68 .u64 s (dig W n)) :
    Calls Tryd.prog 48 #[.bool neg, s] w fun e w' => ∃ v, e = .returned v ∧ IntOwn w' B v (sg neg n) ∧ Below w.heap.size w w' := by
  have hat := hid h
  obtain ⟨p, cap, rfl, h1, h2, h3, h4⟩ := h.at
  unfold maxLen at h2
  clear h4 h
  by_cases h0 : (dig W n).length = 0
  · have hn : n = 0 := (dig_eq_nil W2).1 (List.eq_nil_of_length_eq_zero h0)
    have Hn := hid hn; clear hn
    go_enter Tryd.func48, Tryd.ntmps48
    go_wp2
    exact bodyPost_ret (v := .agg #[.bool false, .slice none 0 0]) (by simp [results, Tryd.results48, go_sem]) rfl ⟨_, rfl, by rw [Hn.out, sg_zero]; exact IntOwn.zero _ _, below1 _ _⟩
  · have hn : n ≠ 0 := fun e => h0 (by rw [e]; rfl)
    have Hn := hid hn; clear hn
    go_enter Tryd.func48, Tryd.ntmps48
    go_wp2
    exact bodyPost_ret (v := .agg #[.bool neg, .slice p (dig W n).length cap]) (by simp [results, Tryd.results48, go_sem]) rfl ⟨_, rfl, IntOwn.mk Hn.out (hat.out.kept (below1 _ _)), below1 _ _⟩

set_option maxHeartbeats 1600000 in
theorem Norm_own (v : Value) (z : Int) (w : World) (h : RawAt w v z) : Calls Tryd.prog 38 #[v] w fun e w' => ∃ v', e = .returned v' ∧ IntOwn w' w.heap.size v' z ∧ Below w.heap.size w w' := by
  obtain ⟨neg, s, l, rfl, ha, hs, hl, rfl⟩ := h
  have Hs := hid (strip_dig W2 hs)
  go_enter Tryd.func38, Tryd.ntmps38
  go_wp2_with fail
  go_region_held3 (fun w' => w'.cell? ⟨w.heap.size, 0, none⟩ = some (.bool neg) ∧ w'.cell? ⟨w.heap.size, 1, none⟩ = some s ∧ Pair w' (w.heap.size + 1) 32)
    (first | (go_split_ands; (try dsimp only); (repeat' apply And.intro) <;> first | assumption | exact Pair.drew ‹_› | exact Pair.below ‹_› hb9 | exact Pair.below ‹_› hb8 | exact Pair.below ‹_› hb7 | exact Pair.below ‹_› hb6 | exact Pair.below ‹_› hb5 | exact Pair.below ‹_› hb4 | exact Pair.below ‹_› hb3 | exact Pair.below ‹_› hb2 | exact Pair.below ‹_› hb1 | exact (hb9.cell (by first | omega | (simp; omega) | (simp; done))).trans ‹_› | exact (hb8.cell (by first | omega | (simp; omega) | (simp; done))).trans ‹_› | exact (hb7.cell (by first | omega | (simp; omega) | (simp; done))).trans ‹_› | exact (hb6.cell (by first | omega | (simp; omega) | (simp; done))).trans ‹_› | exact (hb5.cell (by first | omega | (simp; omega) | (simp; done))).trans ‹_› | exact (hb4.cell (by first | omega | (simp; omega) | (simp; done))).trans ‹_› | exact (hb3.cell (by first | omega | (simp; omega) | (simp; done))).trans ‹_› | exact (hb2.cell (by first | omega | (simp; omega) | (simp; done))).trans ‹_› | exact (hb1.cell (by first | omega | (simp; omega) | (simp; done))).trans ‹_› | exact Pair.set1 (Pair.set0 ‹_› _) _ _ _ | exact (cell_stored _ (by first | (dsimp only; omega) | (simp; done) | (simp; omega)) _ _).trans ‹_› | exact Pair.drew (Pair.below ‹_› (below1 _ _)) | exact Pair.below ‹_› (below1 _ _) | exact Pair.far ‹_› (by omega) hb1 | exact Pair.new .. | exact Pair.new1 .. | exact Pair.new2 .. | (go_keep; done)) | (go_keep; done))
    (first
      | (go_at_call 49; refine (own_any s l _ ?_ hl).mono ?_; (repeat (first | exact ha | apply At.drew | apply At.alloc)); rintro e w1 ⟨v1, rfl, ho1, hb1⟩; have hz1 : w.heap.size + 2 ≤ w1.heap.size := (by have := hb1.size; simp at this; omega); have ho1 := ho1.mono (base' := w.heap.size + 2) (by simp))
      | (go_at_call 48; refine (told_own neg _ _ (w.heap.size + 2) _ (by rw [← Hs.out]; exact ho1)).mono ?_; rintro e w2 ⟨v2, rfl, hi2, hb2⟩; obtain ⟨p2, n2, c2, rfl, hi2⟩ := hi2.shape; have hpr := Pair.below (by go_split_ands; assumption) hb2; obtain ⟨_, _, q0, q1, q2, q3⟩ := hpr.cells))
  go_wp2
  exact bodyPost_ret (v := .agg #[.bool (decide (sg neg (val W l) < 0)), .slice p2 n2 c2]) (by simp [results, Tryd.results38, go_sem, q0, q1]) rfl
    ⟨_, rfl, (hi2.stored (by omega) _ _).mono (by omega), Below.stored ((((below1 _ _).alloc (by simp) _).drew.trans (hb1.mono (B' := w.heap.size) (by simp; omega))).trans (hb2.mono (B' := w.heap.size) (by omega))) (by omega) _ _⟩
end Go.Proofs.YtlffiomlpkopbaaDoor
/- What stays when a call writes into blocks of a set S alone, and into new ones. -/
namespace Go.Proofs.YtlffiomlpkopbaaDoor
open Go.RowKit

/-- of what was there only blocks of S may have turned -/
structure Apart (S : Nat → Prop) (w w' : World) : Prop where
  os : w'.os = w.os
  tape : w'.tape = w.tape
  output : w'.output = w.output
  size : w.heap.size ≤ w'.heap.size
  block : ∀ k, k < w.heap.size → ¬ S k → w'.heap[k]? = w.heap[k]?
theorem Apart.refl (S : Nat → Prop) (w : World) : Apart S w w := ⟨rfl, rfl, rfl, Nat.le_refl _, fun _ _ _ => rfl⟩
theorem Apart.trans {S S' : Nat → Prop} {a b c : World} (h : Apart S a b) (k : Apart S' b c) (hS : ∀ i, S' i → S i ∨ a.heap.size ≤ i) : Apart S a c :=
  ⟨k.os.trans h.os, k.tape.trans h.tape, k.output.trans h.output, Nat.le_trans h.size k.size, fun i hi hn => (k.block i (Nat.lt_of_lt_of_le hi h.size) (fun hs => by
    rcases hS i hs with h1 | h1
    · exact hn h1
    · omega)).trans (h.block i hi hn)⟩
theorem Apart.go {S : Nat → Prop} {a b c : World} (h : Apart S a b) (k : Apart S b c) : Apart S a c := h.trans k (fun _ h => .inl h)
theorem Apart.mono {S S' : Nat → Prop} {w w' : World} (h : Apart S w w') (hS : ∀ i, S i → S' i) : Apart S' w w' :=
  ⟨h.os, h.tape, h.output, h.size, fun i hi hn => h.block i hi (fun hs => hn (hS i hs))⟩
theorem Apart.of_below {S : Nat → Prop} {w w' : World} (h : Below w.heap.size w w') : Apart S w w' := ⟨h.os, h.tape, h.output, h.size, fun i hi _ => h.block i hi⟩
theorem Apart.below {S : Nat → Prop} {w w' : World} {B : Nat} (h : Apart S w w') (hB : B ≤ w.heap.size) (hS : ∀ i, S i → B ≤ i) : Below B w w' :=
  ⟨h.os, h.tape, h.output, h.size, fun i hi => h.block i (by omega) (fun hs => by have := hS i hs; omega)⟩
theorem Apart.setCell {S : Nat → Prop} {a w : World} (h : Apart S a w) {p : Addr} (hp : S p.block) (u : Value) : Apart S a (w.setCell p u) :=
  h.go ⟨rfl, rfl, rfl, by simp [World.setCell], fun k _ hn => Below.heap_setCell _ _ _ _ (fun e => hn (by rw [e]; exact hp))⟩
theorem Apart.grown {S : Nat → Prop} {a w w' : World} {row : Option Nat} (h : Apart S a w) (hg : w.grownBy w' row) (hr : ∀ k, row = some k → S k) : Apart S a w' :=
  h.go ⟨hg.os, hg.tape, hg.output, hg.size, fun k hk hn => hg.block k hk (fun e => hn (hr k e.symm))⟩
theorem Apart.drew {S : Nat → Prop} {a w : World} (h : Apart S a w) : Apart S a w.drew := ⟨h.os, h.tape, h.output, h.size, h.block⟩
theorem Apart.drewN {S : Nat → Prop} {a w : World} (h : Apart S a w) (n : Nat) : Apart S a (w.drewN n) := ⟨h.os, h.tape, h.output, h.size, h.block⟩
theorem Apart.cell {S : Nat → Prop} {w w' : World} (h : Apart S w w') {p : Addr} (hp : p.block < w.heap.size) (hn : ¬ S p.block) : w'.cell? p = w.cell? p :=
  World.cell?_of_block (w := w) (h.block p.block hp hn)

/-- the block of a row, if it has one, is one of S -/
def InS (S : Nat → Prop) (v : Value) : Prop := ∀ k, v.ownBlock = some k → S k
theorem InS.mono {S S' : Nat → Prop} {v : Value} (h : InS S v) (hS : ∀ i, S i → S' i) : InS S' v := fun k hk => hS k (h k hk)
/-- a row stays where its block does -/
theorem row_stays {w w' : World} {base : Nat} {e : TypeId} {size : Nat} {v : Value} {n : Nat} {xs : List Value} (h : w.ownsRow base e size v n xs) (hb : ∀ k, v.ownBlock = some k → w'.heap[k]? = w.heap[k]?) : w'.ownsRow base e size v n xs := by
  obtain ⟨hl, h0 | ⟨g, cap, cur, rfl, hg, hh, r⟩⟩ := h
  · exact ⟨hl, .inl h0⟩
  · exact ⟨hl, .inr ⟨g, cap, cur, rfl, hg, (hb g rfl).trans hh, r⟩⟩
theorem row_tag {w : World} {b : Nat} {e : TypeId} {s : Nat} {v : Value} {n : Nat} {xs : List Value} (h : w.ownsRow b e s v n xs) : ∀ k, v.ownBlock = some k → ∃ c, w.heap[k]? = some (.cells c e (0, 0)) := by
  intro k hk
  rcases h.2 with ⟨rfl, _⟩ | ⟨g, cap, cur, rfl, _, hg, _⟩
  · cases hk
  · cases hk; exact ⟨_, hg⟩

end Go.Proofs.YtlffiomlpkopbaaDoor
/- Rows whose parts are told by a predicate; numbers as they come in; what stays when only blocks of some types turn; rows of one's own. -/
namespace Go.Proofs.YtlffiomlpkopbaaDoor
open Go.RowKit Big

theorem ownsRow_later {w w' : World} {base : Nat} {e : TypeId} {size : Nat} {v : Value} {n : Nat} {xs : List Value} (h : w.ownsRow base e size v n xs) (hb : Below w.heap.size w w') : w'.ownsRow base e size v n xs := by
  obtain ⟨hl, h0 | ⟨g, cap, cur, hv, hg, hh, r⟩⟩ := h
  · exact ⟨hl, .inl h0⟩
  · exact ⟨hl, .inr ⟨g, cap, cur, hv, hg, (hb.block g (Array.getElem?_eq_some_iff.1 hh).1).trans hh, r⟩⟩
theorem ownsRow_shape {w : World} {base : Nat} {e : TypeId} {size : Nat} {v : Value} {n : Nat} {xs : List Value} (h : w.ownsRow base e size v n xs) : ∃ p c, v = .slice p n c := by
  rcases h.2 with ⟨rfl, rfl⟩ | ⟨g, cap, cur, rfl, _⟩
  · exact ⟨_, _, rfl⟩
  · exact ⟨_, _, rfl⟩
theorem ownsRow_mono {w : World} {base base' : Nat} {e : TypeId} {size : Nat} {v : Value} {n : Nat} {xs : List Value} (h : w.ownsRow base e size v n xs) (hb : base' ≤ base) : w.ownsRow base' e size v n xs := by
  obtain ⟨hl, h0 | ⟨g, cap, cur, hv, hg, r⟩⟩ := h
  · exact ⟨hl, .inl h0⟩
  · exact ⟨hl, .inr ⟨g, cap, cur, hv, Nat.le_trans hb hg, r⟩⟩
/-- a row whose parts of k cells are told by Q -/
def LsIn {α : Type} (k : Nat) (Q : World → List Value → α → Prop) (w : World) (v : Value) (l : List α) : Prop :=
  ∃ p cap, v = .slice p l.length cap ∧ l.length ≤ cap ∧ cap ≤ maxLen ∧ (p = none → cap = 0) ∧
    (0 < l.length → ∃ b off, p = some ⟨b, off, none⟩ ∧ b < w.heap.size ∧ ∀ i (h : i < l.length), ∃ c : List Value, (∀ j u, c[j]? = some u → w.cell? ⟨b, off + i * k + j, none⟩ = some u) ∧ Q w c l[i])
theorem LsIn.below {α : Type} {k : Nat} {Q : World → List Value → α → Prop} (hQ : ∀ {w w' : World} {c : List Value} {x : α}, Q w c x → Below w.heap.size w w' → Q w' c x) {w w' : World} {v : Value} {l : List α} (h : LsIn k Q w v l) (hb : Below w.heap.size w w') : LsIn k Q w' v l := by
  obtain ⟨p, cap, rfl, h1, h2, h3, h4⟩ := h
  refine ⟨p, cap, rfl, h1, h2, h3, fun hp => ?_⟩
  obtain ⟨b, off, h5, h6, h7⟩ := h4 hp
  refine ⟨b, off, h5, Nat.lt_of_lt_of_le h6 hb.size, fun i hi => ?_⟩
  obtain ⟨c, k1, k2⟩ := h7 i hi
  exact ⟨c, fun j u hj => (hb.cell (p := ⟨b, off + i * k + j, none⟩) h6).trans (k1 j u hj), hQ k2 hb⟩
/-- a number as it comes in -/
structure Nx where
  neg : Bool
  words : List Nat
def Nx.z (x : Nx) : Int := sg x.neg (val W x.words)
def NxQ (w : World) (c : List Value) (x : Nx) : Prop := ∃ p cp, c = [.bool x.neg, .slice p x.words.length cp] ∧ At w .u64 (.slice p x.words.length cp) x.words ∧ Small W x.words
theorem NxQ.below {w w' : World} {c : List Value} {x : Nx} (h : NxQ w c x) (hb : Below w.heap.size w w') : NxQ w' c x := by
  obtain ⟨p, cp, e, h1, h2⟩ := h
  exact ⟨p, cp, e, h1.below hb, h2⟩
def Nx.fit (x : Nx) : Prop := x.words.length ≤ 6
theorem NxQ.raw {w : World} {n s : Value} {x : Nx} (h : NxQ w [n, s] x) (hf : x.fit) : RawAt w (.agg #[n, s]) x.z := by
  obtain ⟨p, cp, e, h1, h2⟩ := h
  injection e with e0 e
  injection e with e1 _
  subst e0 e1
  exact ⟨_, _, _, rfl, h1, h2, Nat.le_trans hf (by decide), rfl⟩
theorem NxQ.small {w : World} {c : List Value} {x : Nx} (h : NxQ w c x) (hf : x.fit) : sz W x.z.natAbs ≤ 6 := by
  obtain ⟨p, cp, e, h1, h2⟩ := h
  unfold Nx.z
  rw [sg_natAbs]
  exact Nat.le_trans (sz_val W2 h2) hf
theorem NxQ.two {w : World} {c : List Value} {x : Nx} (h : NxQ w c x) : ∃ s, c = [.bool x.neg, s] := by
  obtain ⟨p, cp, e, -⟩ := h
  exact ⟨_, e⟩
abbrev NxsIn := LsIn 2 NxQ
theorem NxsIn.below {w w' : World} {v : Value} {l : List Nx} (h : NxsIn w v l) (hb : Below w.heap.size w w') : NxsIn w' v l := LsIn.below (Q := NxQ) (fun h hb => NxQ.below h hb) h hb
theorem NxsIn.small {w : World} {v : Value} {l : List Nx} (h : NxsIn w v l) (hf : ∀ x ∈ l, x.fit) : ∀ z ∈ l.map Nx.z, sz W z.natAbs ≤ 6 := by
  intro z hz
  obtain ⟨x, hx, rfl⟩ := List.mem_map.1 hz
  obtain ⟨i, hi, rfl⟩ := List.mem_iff_getElem.1 hx
  obtain ⟨p, cap, -, -, -, -, h4⟩ := h
  obtain ⟨b, off, -, -, h7⟩ := h4 (by omega)
  obtain ⟨c, -, k2⟩ := h7 i hi
  exact k2.small (hf _ hx)
/-- of what was there only blocks of these types may have turned -/
structure OffT (Ts : List TypeId) (w w' : World) : Prop where
  os : w'.os = w.os
  tape : w'.tape = w.tape
  output : w'.output = w.output
  size : w.heap.size ≤ w'.heap.size
  block : ∀ (k : Nat) (c : Array Value) (T : TypeId), w.heap[k]? = some (.cells c T (0, 0)) → T ∉ Ts → w'.heap[k]? = some (.cells c T (0, 0))
theorem OffT.refl (Ts : List TypeId) (w : World) : OffT Ts w w := ⟨rfl, rfl, rfl, Nat.le_refl _, fun _ _ _ h _ => h⟩
theorem OffT.trans {Ts : List TypeId} {a b c : World} (h : OffT Ts a b) (k : OffT Ts b c) : OffT Ts a c :=
  ⟨k.os.trans h.os, k.tape.trans h.tape, k.output.trans h.output, Nat.le_trans h.size k.size, fun i o T hi hn => k.block i o T (h.block i o T hi hn) hn⟩
theorem OffT.mono {Ts Ts' : List TypeId} {a b : World} (h : OffT Ts a b) (hs : ∀ T ∈ Ts, T ∈ Ts') : OffT Ts' a b :=
  ⟨h.os, h.tape, h.output, h.size, fun i o T hi hn => h.block i o T hi (fun hT => hn (hs T hT))⟩
theorem OffT.of_below {Ts : List TypeId} {w w' : World} (h : Below w.heap.size w w') : OffT Ts w w' :=
  ⟨h.os, h.tape, h.output, h.size, fun i _ _ hi _ => (h.block i (Array.getElem?_eq_some_iff.1 hi).1).trans hi⟩
theorem OffT.row {Ts : List TypeId} {w w' : World} (h : OffT Ts w w') {b : Nat} {e : TypeId} {s : Nat} {v : Value} {n : Nat} {xs : List Value} (hr : w.ownsRow b e s v n xs) (he : e ∉ Ts) : w'.ownsRow b e s v n xs :=
  row_stays hr fun k hk => by
    obtain ⟨c, hc⟩ := row_tag hr k hk
    rw [hc]
    exact h.block k c e hc he
theorem OffT.own {Ts : List TypeId} {w w' : World} (h : OffT Ts w w') {B : Nat} {v : Value} {z : Int} (hi : IntOwn w B v z) (he : 68 ∉ Ts) : IntOwn w' B v z := by
  obtain ⟨s, hs, ho⟩ := hi
  exact ⟨s, hs, h.row ho he⟩
/-- a row of one's own whose parts of k cells are told by Q -/
def OwnLs {α : Type} (e : TypeId) (k : Nat) (Q : World → List Value → α → Prop) (B : Nat) (w : World) (v : Value) (l : List α) : Prop :=
  ∃ css : List (List Value), css.length = l.length ∧ w.ownsRow B e k v l.length css.flatten ∧ (∀ c ∈ css, c.length = k) ∧ ∀ i (h : i < l.length) (h' : i < css.length), Q w css[i] l[i]
theorem OwnLs.nil {α : Type} (e : TypeId) (k : Nat) (Q : World → List Value → α → Prop) (B : Nat) (w : World) : OwnLs e k Q B w (.slice none 0 0) ([] : List α) :=
  ⟨[], rfl, World.ownsRow_nil w B e k, nofun, fun i h => absurd h (by simp)⟩
theorem OwnLs.off {α : Type} {e : TypeId} {k : Nat} {Q : World → List Value → α → Prop} {B : Nat} {w w' : World} {v : Value} {l : List α} (h : OwnLs e k Q B w v l) {Ts : List TypeId} (hf : OffT Ts w w') (he : e ∉ Ts) (hQ : ∀ c x, Q w c x → Q w' c x) : OwnLs e k Q B w' v l := by
  obtain ⟨css, h1, h2, h3, h4⟩ := h
  exact ⟨css, h1, hf.row h2 he, h3, fun i hi hi' => hQ _ _ (h4 i hi hi')⟩
/-- what is told of the parts is kept, and the row's block stays -/
theorem OwnLs.kept {α : Type} {e : TypeId} {k : Nat} {Q : World → List Value → α → Prop} {B : Nat} {w w' : World} {v : Value} {l : List α} (h : OwnLs e k Q B w v l) (hb : ∀ g, v.ownBlock = some g → w'.heap[g]? = w.heap[g]?) (hQ : ∀ c x, Q w c x → Q w' c x) : OwnLs e k Q B w' v l := by
  obtain ⟨css, h1, h2, h3, h4⟩ := h
  exact ⟨css, h1, row_stays h2 hb, h3, fun i hi hi' => hQ _ _ (h4 i hi hi')⟩
theorem OwnLs.mono {α : Type} {e : TypeId} {k : Nat} {Q : World → List Value → α → Prop} {B B' : Nat} {w : World} {v : Value} {l : List α} (h : OwnLs e k Q B w v l) (hB : B' ≤ B) : OwnLs e k Q B' w v l := by
  obtain ⟨css, h1, h2, h3, h4⟩ := h
  exact ⟨css, h1, ownsRow_mono h2 hB, h3, h4⟩
theorem OwnLs.row {α : Type} {e : TypeId} {k : Nat} {Q : World → List Value → α → Prop} {B : Nat} {w : World} {v : Value} {l : List α} (h : OwnLs e k Q B w v l) : ∃ xs, w.ownsRow B e k v l.length xs ∧
    ∀ w' v' c x, w'.ownsRow B e k v' (l.length + 1) (xs ++ c) → c.length = k → (∀ c x, Q w c x → Q w' c x) → Q w' c x → OwnLs e k Q B w' v' (l ++ [x]) := by
  obtain ⟨css, h1, h2, h3, h4⟩ := h
  refine ⟨css.flatten, h2, fun w' v' c x hr hc hQ hx => ⟨css ++ [c], by simp [h1], by simpa using hr, fun d hd => ?_, fun i hi hi' => ?_⟩⟩
  · rcases List.mem_append.1 hd with hd | hd
    · exact h3 d hd
    · rw [List.mem_singleton.1 hd]; exact hc
  · by_cases hlt : i < l.length
    · rw [List.getElem_append_left hlt, List.getElem_append_left (by omega)]
      exact hQ _ _ (h4 i hlt (by omega))
    · have e1 : i = l.length := by simp at hi; omega
      subst e1
      rw [List.getElem_append_right (Nat.le_refl _), List.getElem_append_right (by omega)]
      simpa [h1] using hx
theorem OwnLs.shape {α : Type} {e : TypeId} {k : Nat} {Q : World → List Value → α → Prop} {B : Nat} {w : World} {v : Value} {l : List α} (h : OwnLs e k Q B w v l) : ∃ p c, v = .slice p l.length c := by
  obtain ⟨css, h1, h2, h3, h4⟩ := h
  exact ownsRow_shape h2
theorem flatten_at {k : Nat} : ∀ {css : List (List Value)}, (∀ c ∈ css, c.length = k) → ∀ i (h : i < css.length) j u, css[i][j]? = some u → css.flatten[i * k + j]? = some u
  | c :: css, hc, 0, _, j, u, hj => by
    have hj : c[j]? = some u := hj
    have hl := (List.getElem?_eq_some_iff.1 hj).1
    rw [Nat.zero_mul, Nat.zero_add, List.flatten_cons, List.getElem?_append_left hl]
    exact hj
  | c :: css, hc, i + 1, h, j, u, hj => by
    have h1 := flatten_at (css := css) (fun d hd => hc d (by simp [hd])) i (by simpa using h) j u hj
    have h2 := hc c (by simp)
    rw [List.flatten_cons, List.getElem?_append_right (by rw [h2, Nat.succ_mul]; omega), h2]
    rw [show (i + 1) * k + j - k = i * k + j from by rw [Nat.succ_mul]; omega]
    exact h1
/-- it reads so -/
theorem OwnLs.in {α : Type} {e : TypeId} {k : Nat} {Q : World → List Value → α → Prop} {B : Nat} {w : World} {v : Value} {l : List α} (h : OwnLs e k Q B w v l) : LsIn k Q w v l := by
  obtain ⟨css, h1, h2, h3, h4⟩ := h
  rcases id h2.2 with ⟨rfl, h0⟩ | ⟨g, cap, cur, rfl, hb, hh, k1, k2, k3, k4⟩
  · have : l = [] := List.eq_nil_of_length_eq_zero h0
    subst this
    exact ⟨none, 0, rfl, by simp, by simp [maxLen], fun _ => rfl, fun h => absurd h (by simp)⟩
  · refine ⟨_, cap, rfl, k1, k2, by simp, fun _ => ⟨g, 0, rfl, (Array.getElem?_eq_some_iff.1 hh).1, fun i hi => ⟨css[i]'(by omega), fun j u hj => ?_, h4 i hi (by omega)⟩⟩⟩
    have h5 := flatten_at h3 i (by omega) j u hj
    have := h2.cells (g := g) rfl _ _ h5
    rw [Go.WideShapes.add_plain] at this
    rw [← this]
    congr 2
    omega
/-- a number's two cells, its words of one's own -/
def IoQ (B : Nat) (w : World) (c : List Value) (z : Int) : Prop := ∃ s, c = [.bool (decide (z < 0)), s] ∧ IntOwn w B (.agg #[.bool (decide (z < 0)), s]) z
theorem IoQ.off {B : Nat} {w w' : World} {c : List Value} {z : Int} (h : IoQ B w c z) {Ts : List TypeId} (hf : OffT Ts w w') (he : 68 ∉ Ts) : IoQ B w' c z := by
  obtain ⟨s, e, h⟩ := h
  exact ⟨s, e, hf.own h he⟩
theorem IoQ.mono {B B' : Nat} {w : World} {c : List Value} {z : Int} (h : IoQ B w c z) (hB : B' ≤ B) : IoQ B' w c z := by
  obtain ⟨s, e, h⟩ := h
  exact ⟨s, e, h.mono hB⟩
end Go.Proofs.YtlffiomlpkopbaaDoor
/- Layer 16 in memory: rows whose blocks hold no word; what is said, and tables, as they read. Made by gen_tbmem.py. -/
namespace Go.Proofs.YtlffiomlpkopbaaDoor
open Go.RowKit Big

/-! ### where no words lie -/
def NoWd (w : World) (b : Nat) : Prop := ∀ j n, w.cell? ⟨b, j, none⟩ ≠ some (.int .u64 n)
theorem At.quiet {w w' : World} {v : Value} {l : List Nat} {S : Nat → Prop} (h : At w .u64 v l) (ha : Apart S w w') (hS : ∀ b, S b → NoWd w b) : At w' .u64 v l := by
  obtain ⟨p, cap, rfl, h1, h2, h3, h4⟩ := h
  refine ⟨p, cap, rfl, h1, h2, h3, fun hp => ?_⟩
  obtain ⟨b, off, h5, h6, h7⟩ := h4 hp
  have hn : ¬ S b := fun hs => hS b hs _ _ (h7 0 hp)
  refine ⟨b, off, h5, Nat.lt_of_lt_of_le h6 ha.size, fun i hi => ?_⟩
  rw [← h7 i hi]
  exact World.cell?_of_block (w := w) (ha.block b h6 hn)
theorem IntAt.quiet {w w' : World} {v : Value} {z : Int} {S : Nat → Prop} (h : IntAt w v z) (ha : Apart S w w') (hS : ∀ b, S b → NoWd w b) : IntAt w' v z := by
  obtain ⟨s, e, h⟩ := h
  exact ⟨s, e, h.quiet ha hS⟩
theorem RawAt.quiet {w w' : World} {v : Value} {z : Int} {S : Nat → Prop} (h : RawAt w v z) (ha : Apart S w w') (hS : ∀ b, S b → NoWd w b) : RawAt w' v z := by
  obtain ⟨neg, s, l, e, h, r⟩ := h
  exact ⟨neg, s, l, e, h.quiet ha hS, r⟩
theorem NoWd.map {w : World} {b : Nat} {es : Array MapEntry} {c : Nat} (h : w.heap[b]? = some (.map es c)) : NoWd w b := by
  intro j n hc
  simp [World.cell?, h] at hc
theorem NoWd.cells {w : World} {b : Nat} {cs : Array Value} {T : TypeId} (h : w.heap[b]? = some (.cells cs T (0, 0))) (hc : ∀ n, .int .u64 n ∉ cs) : NoWd w b := by
  intro j n e
  rw [cell_of_row w b j cs T (0, 0) h] at e
  exact hc n (Array.mem_of_getElem? e)
theorem IntAt.rawL {w : World} {v : Value} {z : Int} (h : IntAt w v z) (hs : sz W z.natAbs ≤ 1099511627776) : RawAt w v z := by
  obtain ⟨s, rfl, h⟩ := h
  refine ⟨_, s, _, rfl, h, small_dig W2 _, hs, ?_⟩
  rw [val_dig W2]
  unfold sg
  by_cases e : z < 0
  · simp only [e, decide_true, if_true]; omega
  · simp only [e, decide_false, Bool.false_eq_true, if_false]; omega

/-- a row of one's own whose block holds no word -/
def RowW (w : World) (base : Nat) (e : TypeId) (size : Nat) (v : Value) (n : Nat) (xs : List Value) : Prop := w.ownsRow base e size v n xs ∧ ∀ g, v.ownBlock = some g → NoWd w g
theorem RowW.nil (w : World) (base : Nat) (e : TypeId) (size : Nat) : RowW w base e size (.slice none 0 0) 0 [] := ⟨World.ownsRow_nil w base e size, fun g h => by cases h⟩
theorem NoWd.keep {w w' : World} {g : Nat} (h : NoWd w g) (e : w'.heap[g]? = w.heap[g]?) : NoWd w' g := fun j n hc => h j n ((World.cell?_of_block (w := w) (a := ⟨g, j, none⟩) e).symm.trans hc)
theorem RowW.stays {w w' : World} {base : Nat} {e : TypeId} {size : Nat} {v : Value} {n : Nat} {xs : List Value} (h : RowW w base e size v n xs) (hb : ∀ g, v.ownBlock = some g → w'.heap[g]? = w.heap[g]?) : RowW w' base e size v n xs :=
  ⟨row_stays h.1 hb, fun g hg => (h.2 g hg).keep (hb g hg)⟩
theorem zeroCells_mem (z : Array Value) : ∀ (k : Nat) (x : Value), x ∈ Builtin.zeroCells z k → x ∈ z := by
  intro k x hx
  unfold Builtin.zeroCells at hx
  obtain ⟨i, hi, rfl⟩ := Array.mem_map.1 hx
  have h0 : 0 < z.size := by
    rcases Nat.eq_zero_or_pos z.size with h | h
    · rw [h] at hi; simp at hi
    · exact h
  have h1 := Nat.mod_lt i h0
  rw [getElem!_pos z _ h1]
  exact Array.getElem_mem h1
theorem Pair.put {w : World} {g : Nat} {t : TypeId} (h : Pair w g t) (x : Bool) (p : Option Addr) (n c : Nat) : ((w.setCell ⟨g, 0, none⟩ (.bool x)).setCell ⟨g, 1, none⟩ (.slice p n c)).heap[g]? = some (.cells #[.bool x, .slice p n c] t (0, 0)) := by
  obtain ⟨y, p', n', c', h⟩ := h
  have h1 := heap_setCell_same w g 0 _ t (.bool x) h
  exact heap_setCell_same _ g 1 _ t (.slice p n c) h1
/-! ### how they read: a row whose parts of k cells are told by Q, in a block of P -/
def wfI (t : Int) : Prop := (Lit.int .i64 t).wf = true
def LsP {α : Type} (k : Nat) (P : Nat → Prop) (Q : World → List Value → α → Prop) (w : World) (v : Value) (l : List α) : Prop :=
  ∃ p cap, v = .slice p l.length cap ∧ l.length ≤ cap ∧ cap ≤ maxLen ∧ (p = none → cap = 0) ∧
    (0 < l.length → ∃ b off, p = some ⟨b, off, none⟩ ∧ b < w.heap.size ∧ P b ∧ ∀ i (h : i < l.length), ∃ c : List Value, (∀ j u, c[j]? = some u → w.cell? ⟨b, off + i * k + j, none⟩ = some u) ∧ Q w c l[i])
theorem LsP.in {α : Type} {k : Nat} {P : Nat → Prop} {Q : World → List Value → α → Prop} {w : World} {v : Value} {l : List α} (h : LsP k P Q w v l) : LsIn k Q w v l := by
  obtain ⟨p, cap, rfl, h1, h2, h3, h4⟩ := h
  refine ⟨p, cap, rfl, h1, h2, h3, fun hp => ?_⟩
  obtain ⟨b, off, e, hb, -, hc⟩ := h4 hp
  exact ⟨b, off, e, hb, hc⟩
theorem LsP.apart {α : Type} {k : Nat} {P S : Nat → Prop} {Q : World → List Value → α → Prop} {w w' : World} {v : Value} {l : List α} (h : LsP k P Q w v l) (ha : Apart S w w') (hS : ∀ b, P b → ¬ S b) (hQ : ∀ c x, Q w c x → Q w' c x) : LsP k P Q w' v l := by
  obtain ⟨p, cap, rfl, h1, h2, h3, h4⟩ := h
  refine ⟨p, cap, rfl, h1, h2, h3, fun hp => ?_⟩
  obtain ⟨b, off, e, hb, hP, hc⟩ := h4 hp
  refine ⟨b, off, e, Nat.lt_of_lt_of_le hb ha.size, hP, fun i hi => ?_⟩
  obtain ⟨c, k1, k2⟩ := hc i hi
  exact ⟨c, fun j u hj => (World.cell?_of_block (w := w) (ha.block b hb (hS b hP))).trans (k1 j u hj), hQ c _ k2⟩
theorem LsP.mono {α : Type} {k : Nat} {P P' : Nat → Prop} {Q Q' : World → List Value → α → Prop} {w : World} {v : Value} {l : List α} (h : LsP k P Q w v l) (hP : ∀ b, b < w.heap.size → P b → P' b) (hQ : ∀ c x, Q w c x → Q' w c x) : LsP k P' Q' w v l := by
  obtain ⟨p, cap, rfl, h1, h2, h3, h4⟩ := h
  refine ⟨p, cap, rfl, h1, h2, h3, fun hp => ?_⟩
  obtain ⟨b, off, e, hb, hp', hc⟩ := h4 hp
  refine ⟨b, off, e, hb, hP b hb hp', fun i hi => ?_⟩
  obtain ⟨c, k1, k2⟩ := hc i hi
  exact ⟨c, k1, hQ c _ k2⟩
theorem LsIn.p {α : Type} {k : Nat} {Q : World → List Value → α → Prop} {w : World} {v : Value} {l : List α} (h : LsIn k Q w v l) : LsP k (fun b => b < w.heap.size) Q w v l := by
  obtain ⟨p, cap, rfl, h1, h2, h3, h4⟩ := h
  refine ⟨p, cap, rfl, h1, h2, h3, fun hp => ?_⟩
  obtain ⟨b, off, e, hb, hc⟩ := h4 hp
  exact ⟨b, off, e, hb, hb, hc⟩
/-- a number's two cells -/
def NmQ (w : World) (c : List Value) (z : Int) : Prop := ∃ n s, c = [.bool n, s] ∧ RawAt w (.agg #[.bool n, s]) z
theorem NmQ.below {w w' : World} {c : List Value} {z : Int} (h : NmQ w c z) (hb : Below w.heap.size w w') : NmQ w' c z := by
  obtain ⟨n, s, e, h⟩ := h
  exact ⟨n, s, e, h.below hb⟩
theorem NmQ.quiet {w w' : World} {c : List Value} {z : Int} {S : Nat → Prop} (h : NmQ w c z) (ha : Apart S w w') (hS : ∀ b, S b → NoWd w b) : NmQ w' c z := by
  obtain ⟨n, s, e, h⟩ := h
  exact ⟨n, s, e, h.quiet ha hS⟩
abbrev NmsIn := LsIn 2 NmQ
theorem NmsIn.below {w w' : World} {v : Value} {l : List Int} (h : NmsIn w v l) (hb : Below w.heap.size w w') : NmsIn w' v l := LsIn.below (Q := NmQ) (fun h hb => NmQ.below h hb) h hb
/-- what is said, as it is handed in: four cells -/
def ApQ (w : World) (c : List Value) (a : Ap) : Prop := ∃ pa ca n s, c = [.int .i64 a.sym, .slice pa a.args.length ca, .bool n, s] ∧ NmsIn w (.slice pa a.args.length ca) a.args ∧ RawAt w (.agg #[.bool n, s]) a.val ∧ wfI a.sym
theorem ApQ.below {w w' : World} {c : List Value} {a : Ap} (h : ApQ w c a) (hb : Below w.heap.size w w') : ApQ w' c a := by
  obtain ⟨pa, ca, n, s, e, h1, h2, h3⟩ := h
  exact ⟨pa, ca, n, s, e, h1.below hb, h2.below hb, h3⟩
abbrev ApsIn := LsIn 4 ApQ
theorem ApsIn.below {w w' : World} {v : Value} {l : List Ap} (h : ApsIn w v l) (hb : Below w.heap.size w w') : ApsIn w' v l := LsIn.below (Q := ApQ) (fun h hb => ApQ.below h hb) h hb
/-- sizes: at most 8 numbers of at most 6 words -/
def ApSz (a : Ap) : Prop := a.args.length ≤ 8 ∧ sz W a.val.natAbs ≤ 6 ∧ ∀ z ∈ a.args, sz W z.natAbs ≤ 6
/-- a row of a table, three cells, its numbers in a block of P -/
def RwP (P : Nat → Prop) (w : World) (c : List Value) (r : List Int × Int) : Prop := ∃ a n s, c = [a, .bool n, s] ∧ LsP 2 P NmQ w a r.1 ∧ RawAt w (.agg #[.bool n, s]) r.2
/-- a table, three cells -/
def TbP (P : Nat → Prop) (w : World) (c : List Value) (t : Tb5) : Prop := ∃ a n s, c = [a, .bool n, s] ∧ LsP 3 P (RwP P) w a t.rows ∧ RawAt w (.agg #[.bool n, s]) t.els
def TbsP (P : Nat → Prop) (w : World) (v : Value) (l : List Tb5) : Prop := LsP 3 P (TbP P) w v l
theorem RwP.apart {P S : Nat → Prop} {w w' : World} {c : List Value} {r : List Int × Int} (h : RwP P w c r) (ha : Apart S w w') (hP : ∀ b, P b → ¬ S b) (hS : ∀ b, S b → NoWd w b) : RwP P w' c r := by
  obtain ⟨a, n, s, e, h1, h2⟩ := h
  exact ⟨a, n, s, e, h1.apart ha hP (fun _ _ h => h.quiet ha hS), h2.quiet ha hS⟩
theorem TbP.apart {P S : Nat → Prop} {w w' : World} {c : List Value} {t : Tb5} (h : TbP P w c t) (ha : Apart S w w') (hP : ∀ b, P b → ¬ S b) (hS : ∀ b, S b → NoWd w b) : TbP P w' c t := by
  obtain ⟨a, n, s, e, h1, h2⟩ := h
  exact ⟨a, n, s, e, h1.apart ha hP (fun _ _ h => h.apart ha hP hS), h2.quiet ha hS⟩
theorem TbsP.apart {P S : Nat → Prop} {w w' : World} {v : Value} {l : List Tb5} (h : TbsP P w v l) (ha : Apart S w w') (hP : ∀ b, P b → ¬ S b) (hS : ∀ b, S b → NoWd w b) : TbsP P w' v l :=
  LsP.apart (Q := TbP P) h ha hP (fun _ _ h => h.apart ha hP hS)
theorem TbsP.below {P : Nat → Prop} {w w' : World} {v : Value} {l : List Tb5} (h : TbsP P w v l) (hb : Below w.heap.size w w') : TbsP P w' v l :=
  TbsP.apart (S := fun _ => False) h (Apart.of_below hb) (fun _ _ h => h) (fun _ h => h.elim)
theorem LsIn.cells {α : Type} {k : Nat} {Q : World → List Value → α → Prop} {w : World} {p : Option Addr} {n c : Nat} {l : List α} (h : LsIn k Q w (.slice p n c) l) : n = l.length ∧ l.length ≤ c ∧ c ≤ maxLen ∧ (p = none → c = 0) ∧
    (0 < l.length → ∃ b off, p = some ⟨b, off, none⟩ ∧ b < w.heap.size ∧ ∀ i (h : i < l.length), ∃ c : List Value, (∀ j u, c[j]? = some u → w.cell? ⟨b, off + i * k + j, none⟩ = some u) ∧ Q w c l[i]) := by
  obtain ⟨p', cap, e, h1, h2, h3, h4⟩ := h
  injection e with e1 e2 e3
  subst e1 e2 e3
  exact ⟨rfl, h1, h2, h3, h4⟩
theorem cells4 {w : World} {b : Nat} {x0 x1 x2 x3 : Value} {T : TypeId} (h : w.heap[b]? = some (.cells #[x0, x1, x2, x3] T (0, 0))) : w.cell? ⟨b, 0, none⟩ = some x0 ∧ w.cell? ⟨b, 1, none⟩ = some x1 ∧ w.cell? ⟨b, 2, none⟩ = some x2 ∧ w.cell? ⟨b, 3, none⟩ = some x3 := by
  refine ⟨?_, ?_, ?_, ?_⟩ <;> rw [cell_of_row w b _ _ T (0, 0) h] <;> rfl
theorem cells3 {w : World} {b : Nat} {x0 x1 x2 : Value} {T : TypeId} (h : w.heap[b]? = some (.cells #[x0, x1, x2] T (0, 0))) : w.cell? ⟨b, 0, none⟩ = some x0 ∧ w.cell? ⟨b, 1, none⟩ = some x1 ∧ w.cell? ⟨b, 2, none⟩ = some x2 := by
  refine ⟨?_, ?_, ?_⟩ <;> rw [cell_of_row w b _ _ T (0, 0) h] <;> rfl
theorem RawAt.shp {w : World} {v : Value} {z : Int} (h : RawAt w v z) : ∃ d p n c, v = .agg #[.bool d, .slice p n c] := by
  obtain ⟨d, s, l, rfl, ⟨p, c, rfl, -⟩, -⟩ := h
  exact ⟨_, _, _, _, rfl⟩
theorem tbGo {a b c : World} (h : Below b.heap.size b c) (k : Below a.heap.size a b) : Below a.heap.size a c := k.trans (h.mono k.size)
end Go.Proofs.YtlffiomlpkopbaaDoor
/- A region that draws its order, walked operation by operation under an invariant that speaks of what has come up: no branching over the orders. -/
namespace Go.Proofs.YtlffiomlpkopbaaDoor

theorem count_false_set (l : List Bool) (i : Nat) (h : i < l.length) (hf : l[i] = false) : (l.set i true).count false + 1 = l.count false := by
  induction l generalizing i with
  | nil => simp at h
  | cons b l ih =>
    cases i with
    | zero => simp at hf; subst hf; simp
    | succ i =>
      have := ih i (by simpa using h) (by simpa using hf)
      cases b <;> simp [List.set_cons_succ] <;> omega

/-- edges lead to lower numbers -/
def edgesDown (md : Region.Mode) (ops : Array Oper) : Bool := (List.range ops.size).all fun i => (ops[i]?).all fun o => o.after.all fun e => !Region.binds md e || decide (e.on < i)

theorem all_listed {md : Region.Mode} {ops : Array Oper} (hd : edgesDown md ops = true) {listed : Array Bool} (hs : listed.size = ops.size) (hr : Region.ready md ops listed = []) : ∀ i, i < ops.size → listed.getD i true = true := by
  intro i
  induction i using Nat.strongRecOn with
  | _ i ih =>
    intro hi
    cases hun : listed.getD i true with
    | true => rfl
    | false =>
    have : i ∈ Region.ready md ops listed := mem_ready.2 ⟨hun, ops[i], by simp [hi], fun e he hb => by
      have h1 := List.all_eq_true.1 hd i (by simpa using hi)
      have h2 : ops[i]? = some ops[i] := by simp [hi]
      rw [h2] at h1
      simp only [Option.all_some, Array.all_eq_true_iff_forall_mem] at h1
      have hlt : e.on < i := by simpa [hb] using h1 e he
      have h4 := ih e.on hlt (by omega)
      have h5 : e.on < listed.size := by omega
      simpa [Array.getD, h5] using h4⟩
    rw [hr] at this; cases this

/-- six slots set -/
def put6 (a : Act) (d1 d2 d3 d4 d5 d6 : Tmp) (v1 v2 v3 v4 v5 v6 : Value) : Act := (((((a.put (some d1) v1).put (some d2) v2).put (some d3) v3).put (some d4) v4).put (some d5) v5).put (some d6) v6
end Go.Proofs.YtlffiomlpkopbaaDoor
/- A region that draws its order: each operation is shown once to give its own fact, which lasts; the stores come last, one by one. -/
namespace Go.Proofs.YtlffiomlpkopbaaDoor
open Go.RowKit

/-- a fact of a slot's value that lasts while memory grows -/
structure SFact where
  P : Value → World → Prop
  st : ∀ v w w', P v w → Below w.heap.size w w' → P v w'
def putAll (a : Act) : List Tmp → List Value → Act
  | d :: ds, v :: vs => putAll (a.put (some d) v) ds vs
  | _, _ => a
/-- i waits for j, by at most so many steps -/
def reach (md : Region.Mode) (ops : Array Oper) : Nat → Nat → Nat → Bool
  | 0, _, _ => false
  | f + 1, i, j => (ops[i]?).any fun o => (o.after.any fun e => Region.binds md e && e.on == j) || (o.after.any fun e => Region.binds md e && reach md ops f e.on j)
def storesWait (md : Region.Mode) (ops : Array Oper) (n : Nat) : Bool := (List.range ops.size).all fun i => decide (i < n) || (List.range n).all fun j => reach md ops 6 i j
def Closed (md : Region.Mode) (ops : Array Oper) (L : Array Bool) : Prop := ∀ j o, ops[j]? = some o → L.getD j false = true → ∀ e ∈ o.after, Region.binds md e = true → L.getD e.on false = true
theorem reach_listed {md : Region.Mode} {ops : Array Oper} {L : Array Bool} (hc : Closed md ops L) : ∀ (f i : Nat) (o : Oper) (j : Nat), ops[i]? = some o → (∀ e ∈ o.after, Region.binds md e = true → L.getD e.on false = true) → reach md ops f i j = true → L.getD j false = true
  | 0, _, _, _, _, _, h => by cases h
  | f + 1, i, o, j, ho, hall, h => by
    simp only [reach, ho, Option.any_some, Bool.or_eq_true] at h
    rcases h with h | h
    · obtain ⟨e, he, hb⟩ := Array.any_eq_true'.1 h
      simp only [Bool.and_eq_true, beq_iff_eq] at hb
      rw [← hb.2]; exact hall e he hb.1
    · obtain ⟨e, he, hb⟩ := Array.any_eq_true'.1 h
      simp only [Bool.and_eq_true] at hb
      have hl := hall e he hb.1
      cases hoe : ops[e.on]? with
      | none =>
        exfalso
        have h2 := hb.2
        cases f with
        | zero => cases h2
        | succ f => simp [reach, hoe] at h2
      | some o' => exact reach_listed hc f e.on o' j hoe (hc e.on o' hoe hl) hb.2
theorem getD_put {a : Act} {ds : List Tmp} {vs : List Value} {d : Tmp} {v : Value} (hd : d ∉ ds) : putAll (a.put (some d) v) ds vs = (putAll a ds vs).put (some d) v := by
  induction ds generalizing a vs with
  | nil => rfl
  | cons d' ds ih =>
    cases vs with
    | nil => rfl
    | cons v' vs =>
      simp only [putAll]
      have hne : d' ≠ d := fun e => hd (by simp [e])
      rw [Act.put_comm a v v' (x := some d) (y := some d') (by intro x hx hy; cases hx; cases hy; exact hne rfl)]
      exact ih (fun h => hd (by simp [h]))
theorem putAll_set {a : Act} {ds : List Tmp} {vs : List Value} {i : Nat} {d : Tmp} {v : Value} (hn : ds.Nodup) (hi : ds[i]? = some d) (hl : vs.length = ds.length) : (putAll a ds vs).put (some d) v = putAll a ds (vs.set i v) := by
  induction ds generalizing a vs i with
  | nil => simp at hi
  | cons d' ds ih =>
    cases vs with
    | nil => simp at hl
    | cons v' vs =>
      rw [List.nodup_cons] at hn
      cases i with
      | zero =>
        simp at hi; subst hi
        simp only [putAll, List.set_cons_zero]
        rw [← getD_put hn.1]
        congr 1
        unfold Act.put
        simp [Array.setIfInBounds_setIfInBounds]
      | succ i =>
        simp only [putAll, List.set_cons_succ]
        exact ih hn.2 (by simpa using hi) (by simpa using hl)

def dstsAre (ops : Array Oper) (n : Nat) (ds : List Tmp) : Bool := (List.range n).all fun i => (ops[i]?).all fun o => o.dst == ds[i]?
theorem getD_set_list {l : List Value} {i j : Nat} {v : Value} (h : i ≠ j) : (l.set i v).getD j undef = l.getD j undef := by
  simp [List.getD, List.getElem?_set_ne h]
theorem getD_set_list_self {l : List Value} {i : Nat} {v : Value} (h : i < l.length) : (l.set i v).getD i undef = v := by
  simp [List.getD, h]

theorem wpAny_facts {P : Program} {ops : Array Oper} {Q : Exit → Act → World → Prop} {a0 : Act} {w0 : World} (n s : Nat) (hsize : ops.size = n + s) (ds : List Tmp) (f : Nat → SFact) (al : List Nat)
    (hd : edgesDown .any ops = true) (hsw : storesWait .any ops n = true) (hdn : ds.Nodup) (hlen : ds.length = n) (hds : dstsAre ops n ds = true)
    (hal : ∀ i ∈ al, ∀ v w, (f i).P v w → ∃ g, v = .pointer (some ⟨g, 0, none⟩) ∧ g < w.heap.size)
    (hstep : ∀ i o, i < n → ops[i]? = some o → ∀ vs w, vs.length = n → Below w0.heap.size w0 w → (∀ e ∈ o.after, Region.binds .any e = true → (f e.on).P (vs.getD e.on undef) w) →
      ∀ K : Act → World → Prop, Shut (∀ v w', (f i).P v w' → Below w.heap.size w w' → (i ∈ al → v = .pointer (some ⟨w.heap.size, 0, none⟩)) → K ((putAll a0 ds vs).put o.dst v) w') →
        if Region.wanted o (yielded ops (putAll a0 ds vs).tmps) = true then Oper.wp P o (putAll a0 ds vs) w K Q else K ((putAll a0 ds vs).put o.dst undef) w)
    (hend : ∀ vs w, vs.length = n → Below w0.heap.size w0 w → (∀ i, i < n → (f i).P (vs.getD i undef) w) → (∀ i ∈ al, ∀ j ∈ al, i ≠ j → vs.getD i undef ≠ vs.getD j undef) →
      wpAny P .any ops Q s ((List.replicate n true ++ List.replicate s false).toArray) (putAll a0 ds vs) w) :
    ∀ (c : Nat) (L : Array Bool) (vs : List Value) (w : World), (L.toList.take n).count false = c → L.size = n + s → (∀ j, n ≤ j → j < n + s → L.getD j true = false) → Closed .any ops L → vs.length = n → Below w0.heap.size w0 w →
      (∀ i, i < n → L.getD i false = true → (f i).P (vs.getD i undef) w) → (∀ i ∈ al, ∀ j ∈ al, i < n → j < n → i ≠ j → L.getD i false = true → L.getD j false = true → vs.getD i undef ≠ vs.getD j undef) →
      (∀ i ∈ al, i < n) → wpAny P .any ops Q (c + s) L (putAll a0 ds vs) w := by
  intro c
  induction c with
  | zero =>
    intro L vs w hc hs hst hcl hvl hb hf hdist haln
    have hall : ∀ i, i < n → L.getD i false = true := fun i hi => by
      have hil : i < L.size := by omega
      cases hb : L[i] with
      | true => simp [Array.getD, hil, hb]
      | false =>
        exfalso
        have hmem : false ∈ L.toList.take n := by
          rw [List.mem_take_iff_getElem]
          exact ⟨i, by simp; omega, by simpa using hb⟩
        have := List.count_pos_iff.2 hmem
        omega
    have hL : L = (List.replicate n true ++ List.replicate s false).toArray := by
      apply Array.ext
      · simp [hs]
      · intro i hi hi2
        by_cases h : i < n
        · have := hall i h
          simp only [Array.getD, hi] at this
          simp [h]
          simpa using this
        · have := hst i (by omega) (by omega)
          simp only [Array.getD, hi] at this
          simp [List.getElem_append, h]
          simpa using this
    rw [Nat.zero_add, hL]
    exact hend vs w hvl hb (fun i hi => hf i hi (hall i hi)) (fun i hi j hj hne => hdist i hi j hj (haln i hi) (haln j hj) hne (hall i (haln i hi)) (hall j (haln j hj)))
  | succ c ih =>
    intro L vs w hc hs hst hcl hvl hb hf hdist haln
    have hnot : ¬ ∀ i, i < n → L.getD i false = true := fun hall => by
      have : (L.toList.take n).count false = 0 := by
        rw [List.count_eq_zero]
        intro hmem
        rw [List.mem_take_iff_getElem] at hmem
        obtain ⟨i, hi, hif⟩ := hmem
        have hi' : i < L.size := by simp at hi; omega
        have := hall i (by simp at hi; omega)
        have h2 : L.getD i false = L[i] := by simp [Array.getD, hi']
        rw [h2] at this
        rw [Array.getElem_toList] at hif
        rw [hif] at this
        cases this
      omega
    rw [show c + 1 + s = (c + s) + 1 by omega]
    refine ⟨fun hr => ?_, fun i hi => ?_⟩
    · exfalso
      apply hnot
      intro i hi
      have := all_listed hd (by rw [hs, hsize]) hr i (by omega)
      have hil : i < L.size := by omega
      simpa [Array.getD, hil] using this
    · obtain ⟨hun, o, ho, hall⟩ := mem_ready.1 hi
      have hio : i < ops.size := (Array.getElem?_eq_some_iff.1 ho).1
      have hil : i < L.size := by omega
      have hin : i < n := by
        rcases Nat.lt_or_ge i n with h | h
        · exact h
        · exfalso
          apply hnot
          intro j hj
          have h1 := List.all_eq_true.1 hsw i (by simpa using hio)
          simp only [Bool.or_eq_true, decide_eq_true_eq] at h1
          rcases h1 with h1 | h1
          · omega
          · exact reach_listed hcl 6 i o j ho hall (List.all_eq_true.1 h1 j (by simpa using hj))
      have hdst : o.dst = ds[i]? := by
        have h1 := List.all_eq_true.1 hds i (by simpa using hin)
        rw [ho] at h1
        simpa using h1
      have hdi : ds[i]? = some (ds[i]'(by omega)) := by simp
      refine wpOp_step ho (fun K hK => hstep i o hin ho vs w hvl hb (fun e he hbd => ?_) K (fun v w' hv hb' hp => ?_))
      · have hl := hall e he hbd
        have hlt : e.on < n := by
          rcases Nat.lt_or_ge e.on n with h | h
          · exact h
          · exfalso
            rcases Nat.lt_or_ge e.on (n + s) with h2 | h2
            · have := hst e.on h h2
              have hl2 : e.on < L.size := by omega
              simp only [Array.getD, hl2] at this hl
              simp at this hl
              rw [this] at hl; cases hl
            · have : ¬ e.on < L.size := by omega
              simp [Array.getD, this] at hl
        exact hf e.on hlt hl
      · apply hK
        rw [hdst, hdi, putAll_set hdn hdi (by omega)]
        have hset : ∀ j, i ≠ j → (L.setIfInBounds i true).getD j false = L.getD j false := fun j h => getD_set_ne false h
        refine ih (L.setIfInBounds i true) (vs.set i v) w' ?_ (by simpa using hs) ?_ ?_ (by simpa using hvl) (hb.trans (hb'.mono hb.size)) ?_ ?_ haln
        · have hf' : (L.toList.take n)[i]'(by simp; omega) = false := by
            simp only [List.getElem_take]
            simpa [Array.getD, hil] using hun
          have := count_false_set (L.toList.take n) i (by simp; omega) hf'
          rw [Array.toList_setIfInBounds, ← List.take_set] at *
          omega
        · intro j hj hj2
          rw [getD_set_ne true (by omega)]
          exact hst j hj hj2
        · intro j o' hjo hjl e he hbd
          by_cases hji : i = j
          · subst hji
            rw [ho] at hjo
            cases hjo
            exact getD_set_true (hall e he hbd)
          · rw [hset j hji] at hjl
            exact getD_set_true (hcl j o' hjo hjl e he hbd)
        · intro j hj hjl
          by_cases hji : i = j
          · subst hji
            rw [getD_set_list_self (by omega)]
            exact hv
          · rw [hset j hji] at hjl
            rw [getD_set_list hji]
            exact (f j).st _ _ _ (hf j hj hjl) hb'
        · intro j hj k hk hjn hkn hjk hjl hkl
          have old : ∀ x, x ∈ al → x < n → i ≠ x → (L.setIfInBounds i true).getD x false = true → vs.getD x undef ≠ .pointer (some ⟨w.heap.size, 0, none⟩) := fun x hx hxn hix hxl => by
            rw [hset x hix] at hxl
            obtain ⟨g, hg, hgl⟩ := hal x hx _ _ (hf x hxn hxl)
            rw [hg]
            intro e
            injection e with e
            injection e with e
            injection e with e
            omega
          by_cases hji : i = j
          · subst hji
            rw [getD_set_list_self (by omega), getD_set_list hjk, hp hj]
            exact (old k hk hkn hjk hkl).symm
          · by_cases hki : i = k
            · subst hki
              rw [getD_set_list_self (by omega), getD_set_list hji, hp hk]
              exact old j hj hjn hji hjl
            · rw [getD_set_list hji, getD_set_list hki]
              rw [hset j hji] at hjl
              rw [hset k hki] at hkl
              exact hdist j hj k hk hjn hkn hjk hjl hkl

theorem wp_region_facts {P : Program} {ops : Array Oper} {Q : Exit → Act → World → Prop} {id : Nat} {a0 : Act} {w0 : World} (n s : Nat) (ds : List Tmp) (vs0 : List Value) (f : Nat → SFact) (al : List Nat) (hm : P.follows .mixedOrders = true)
    (hsize : ops.size = n + s) (hd : edgesDown .any ops = true) (hsw : storesWait .any ops n = true) (hdn : ds.Nodup) (hlen : ds.length = n) (hds : dstsAre ops n ds = true) (hv0 : vs0.length = n) (haln : ∀ i ∈ al, i < n)
    (he : a0 = putAll a0 ds vs0) (hal : ∀ i ∈ al, ∀ v w, (f i).P v w → ∃ g, v = .pointer (some ⟨g, 0, none⟩) ∧ g < w.heap.size)
    (hstep : ∀ i o, i < n → ops[i]? = some o → ∀ vs w, vs.length = n → Below w0.heap.size w0 w → (∀ e ∈ o.after, Region.binds .any e = true → (f e.on).P (vs.getD e.on undef) w) →
      ∀ K : Act → World → Prop, Shut (∀ v w', (f i).P v w' → Below w.heap.size w w' → (i ∈ al → v = .pointer (some ⟨w.heap.size, 0, none⟩)) → K ((putAll a0 ds vs).put o.dst v) w') →
        if Region.wanted o (yielded ops (putAll a0 ds vs).tmps) = true then Oper.wp P o (putAll a0 ds vs) w K Q else K ((putAll a0 ds vs).put o.dst undef) w)
    (hend : ∀ vs w, vs.length = n → Below w0.heap.size w0 w → (∀ i, i < n → (f i).P (vs.getD i undef) w) → (∀ i ∈ al, ∀ j ∈ al, i ≠ j → vs.getD i undef ≠ vs.getD j undef) →
      wpAny P .any ops Q s ((List.replicate n true ++ List.replicate s false).toArray) (putAll a0 ds vs) w) : (Code.region id ops true).wp P Q a0 w0 := by
  refine wp_region_any hm ?_
  have := wpAny_facts (a0 := a0) (w0 := w0) n s hsize ds f al hd hsw hdn hlen hds hal hstep hend n (Array.replicate ops.size false) vs0 w0.drew
    (by rw [hsize]; simp [List.take_replicate, Nat.min_eq_left (Nat.le_add_right n s)]) (by simp [hsize]) (by intro j hj hj2; simp [Array.getD, hsize, hj2]) (by intro j o _ h; simp [Array.getD] at h) hv0 ((Below.refl _ _).drew)
    (by intro i _ h; simp [Array.getD] at h) (by intro i _ j _ _ _ _ h; simp [Array.getD] at h) haln
  rw [← he, ← hsize] at this
  exact this
theorem wpAny_one {P : Program} {ops : Array Oper} {Q : Exit → Act → World → Prop} {md : Region.Mode} {i fuel : Nat} {o : Oper} {listed : Array Bool} {a : Act} {w : World} (hr : Region.ready md ops listed = [i]) (ho : ops[i]? = some o)
    (h : ∀ K : Act → World → Prop, Shut (∀ a w, wpAny P md ops Q fuel (listed.setIfInBounds i true) a w → K a w) → if Region.wanted o (yielded ops a.tmps) = true then Oper.wp P o a w K Q else K (a.put o.dst undef) w) : wpAny P md ops Q (fuel + 1) listed a w := by
  refine ⟨fun h0 => (by rw [hr] at h0; cases h0), ?_⟩
  rw [hr]
  intro j hj
  obtain rfl : j = i := by simpa using hj
  exact wpOp_step ho (fun K hK => h K hK)
end Go.Proofs.YtlffiomlpkopbaaDoor
/- Lists of so many values. -/
namespace Go.Proofs.YtlffiomlpkopbaaDoor

theorem vlen7 {vs : List Value} (h : vs.length = 7) : ∃ v0 v1 v2 v3 v4 v5 v6, vs = [v0, v1, v2, v3, v4, v5, v6] := by
  match vs, h with
  | [v0, v1, v2, v3, v4, v5, v6], _ => exact ⟨v0, v1, v2, v3, v4, v5, v6, rfl⟩
theorem vlen10 {vs : List Value} (h : vs.length = 10) : ∃ v0 v1 v2 v3 v4 v5 v6 v7 v8 v9, vs = [v0, v1, v2, v3, v4, v5, v6, v7, v8, v9] := by
  match vs, h with
  | [v0, v1, v2, v3, v4, v5, v6, v7, v8, v9], _ => exact ⟨v0, v1, v2, v3, v4, v5, v6, v7, v8, v9, rfl⟩
theorem vlen12 {vs : List Value} (h : vs.length = 12) : ∃ v0 v1 v2 v3 v4 v5 v6 v7 v8 v9 v10 v11, vs = [v0, v1, v2, v3, v4, v5, v6, v7, v8, v9, v10, v11] := by
  match vs, h with
  | [v0, v1, v2, v3, v4, v5, v6, v7, v8, v9, v10, v11], _ => exact ⟨v0, v1, v2, v3, v4, v5, v6, v7, v8, v9, v10, v11, rfl⟩
end Go.Proofs.YtlffiomlpkopbaaDoor
/- Steps of a drawn region: an append to a row of the call's own, or to one that was there. -/
namespace Go.Proofs.YtlffiomlpkopbaaDoor
open Go.RowKit Big

end Go.Proofs.YtlffiomlpkopbaaDoor
/-
  DERIVED: THE SHELF's CONTRACTS AT THIS DUMP, IN PLAIN WORDS (tools/lay-plain.mjs out of 'TrydShelf.lean', which tools/lay-shelf.mjs wrote): THE SAME DECLARATIONS UNDER THE SAME NAMES: 'import', 'namespace', 'open', 'def', 'theorem' AND NOTHING ELSE: no command of the shelf's: FOR A HAND-IN. Each laying: the table of numbers ('.._ren') and one theorem, a field a fact of the dump's own or the kernel's comparison; each contract: ONE APPLICATION.
-/
namespace Go.Proofs
open Go.Shelf
def Tryd.lays215_ren : Go.Shelf.Ren := ⟨fun | 215 => 45 | n => n, fun | 3 => 3 | 4 => 4 | n => n, fun | n => n⟩
def Tryd.lays122_ren : Go.Shelf.Ren := ⟨fun | 122 => 32 | 215 => 45 | n => n, fun | 3 => 3 | 4 => 4 | n => n, fun | n => n⟩
def Tryd.lays129_ren : Go.Shelf.Ren := ⟨fun | 129 => 64 | n => n, fun | 53 => 68 | 3 => 3 | 4 => 4 | 46 => 88 | 5 => 5 | 9 => 9 | n => n, fun | n => n⟩
def Tryd.lays317_ren : Go.Shelf.Ren := ⟨fun | 317 => 63 | n => n, fun | 3 => 3 | 46 => 88 | n => n, fun | n => n⟩
def Tryd.lays318_ren : Go.Shelf.Ren := ⟨fun | 318 => 65 | n => n, fun | 3 => 3 | 4 => 4 | n => n, fun | n => n⟩
def Tryd.lays283_ren : Go.Shelf.Ren := ⟨fun | 283 => 59 | n => n, fun | 3 => 3 | 9 => 9 | 4 => 4 | n => n, fun | n => n⟩
def Tryd.laysM284_ren : Go.Shelf.Ren := ⟨fun | 284 => 60 | 129 => 64 | 317 => 63 | 318 => 65 | n => n, fun | 53 => 68 | 3 => 3 | 212 => 100 | 0 => 0 | 4 => 4 | 46 => 88 | 5 => 5 | 9 => 9 | n => n, fun | 17 => 0 | n => n⟩
def Tryd.lays285_ren : Go.Shelf.Ren := ⟨fun | 285 => 61 | n => n, fun | 37 => 80 | 53 => 68 | 3 => 3 | 4 => 4 | 51 => 101 | 9 => 9 | 5 => 5 | 0 => 0 | n => n, fun | n => n⟩
def Tryd.laysM288_ren : Go.Shelf.Ren := ⟨fun | 288 => 55 | 283 => 59 | 284 => 60 | 285 => 61 | 286 => 62 | 129 => 64 | 317 => 63 | 318 => 65 | 319 => 66 | 320 => 67 | 337 => 68 | 338 => 69 | n => n, fun | 37 => 80 | 53 => 68 | 3 => 3 | 4 => 4 | 9 => 9 | 171 => 93 | 0 => 0 | 173 => 96 | 212 => 100 | 51 => 101 | 5 => 5 | 20 => 20 | 213 => 102 | 46 => 88 | 232 => 105 | 233 => 106 | n => n, fun | 17 => 0 | 18 => 1 | 19 => 2 | n => n⟩
theorem Tryd.laysM288 : Go.Proofs.LaysM.n288 Tryd.prog Tryd.laysM288_ren := {
  mixed := by kernel_rfl
  f129 := Tryd.func64.trans (congrArg some (by kernel_rfl))
  f283 := Tryd.func59.trans (congrArg some (by kernel_rfl))
  f284 := Tryd.func60.trans (congrArg some (by kernel_rfl))
  f285 := Tryd.func61.trans (congrArg some (by kernel_rfl))
  f286 := Tryd.func62.trans (congrArg some (by kernel_rfl))
  f288 := Tryd.func55.trans (congrArg some (by kernel_rfl))
  f317 := Tryd.func63.trans (congrArg some (by kernel_rfl))
  f318 := Tryd.func65.trans (congrArg some (by kernel_rfl))
  f319 := Tryd.func66.trans (congrArg some (by kernel_rfl))
  f320 := Tryd.func67.trans (congrArg some (by kernel_rfl))
  f337 := Tryd.func68.trans (congrArg some (by kernel_rfl))
  f338 := Tryd.func69.trans (congrArg some (by kernel_rfl))
  t0 := Tryd.underlying0
  a0 := Tryd.isAgg0
  z0 := Tryd.sizeOf0
  v0 := Tryd.zeroValue0
  t3 := Tryd.underlying3
  a3 := Tryd.isAgg3
  z3 := Tryd.sizeOf3
  v3 := Tryd.zeroValue3
  t4 := Tryd.underlying4
  a4 := Tryd.isAgg4
  z4 := Tryd.sizeOf4
  v4 := Tryd.zeroValue4
  t5 := Tryd.underlying5
  a5 := Tryd.isAgg5
  z5 := Tryd.sizeOf5
  v5 := Tryd.zeroValue5
  t9 := Tryd.underlying9
  a9 := Tryd.isAgg9
  z9 := Tryd.sizeOf9
  v9 := Tryd.zeroValue9
  t20 := Tryd.underlying20
  a20 := Tryd.isAgg20
  z20 := Tryd.sizeOf20
  v20 := Tryd.zeroValue20
  t37 := Tryd.underlying80
  a37 := Tryd.isAgg80
  z37 := Tryd.sizeOf80
  v37 := Tryd.zeroValue80
  t46 := Tryd.underlying88
  a46 := Tryd.isAgg88
  z46 := Tryd.sizeOf88
  v46 := Tryd.zeroValue88
  t51 := Tryd.underlying101
  a51 := Tryd.isAgg101
  z51 := Tryd.sizeOf101
  v51 := Tryd.zeroValue101
  t53 := Tryd.underlying68
  a53 := Tryd.isAgg68
  z53 := Tryd.sizeOf68
  v53 := Tryd.zeroValue68
  t171 := Tryd.underlying93
  a171 := Tryd.isAgg93
  z171 := Tryd.sizeOf93
  v171 := Tryd.zeroValue93
  t173 := Tryd.underlying96
  a173 := Tryd.isAgg96
  z173 := Tryd.sizeOf96
  v173 := Tryd.zeroValue96
  t212 := Tryd.underlying100
  a212 := Tryd.isAgg100
  z212 := Tryd.sizeOf100
  v212 := Tryd.zeroValue100
  t213 := Tryd.underlying102
  a213 := Tryd.isAgg102
  z213 := Tryd.sizeOf102
  t232 := Tryd.underlying105
  a232 := Tryd.isAgg105
  z232 := Tryd.sizeOf105
  v232 := Tryd.zeroValue105
  t233 := Tryd.underlying106
  a233 := Tryd.isAgg106
  z233 := Tryd.sizeOf106
  v233 := Tryd.zeroValue106
  g17 := by kernel_rfl
  g18 := by kernel_rfl
  g19 := by kernel_rfl
  i0 := by kernel_rfl
  i3 := by kernel_rfl
  i4 := by kernel_rfl
  i5 := by kernel_rfl
  i9 := by kernel_rfl
  i20 := by kernel_rfl
  i37 := by kernel_rfl
  i46 := by kernel_rfl
  i51 := by kernel_rfl
  i53 := by kernel_rfl
  i171 := by kernel_rfl
  i173 := by kernel_rfl
  i212 := by kernel_rfl
  i232 := by kernel_rfl
  i233 := by kernel_rfl
  m17 := by kernel_rfl
  m18 := by kernel_rfl
  m19 := by kernel_rfl }
open Go.RowKit Go.Sort Go.Lib in
/-- internal/strconv.AppendUint(dst, i, 10): the two contracts as one. NO WALK. (LAID: no walk: one application.) -/
theorem Tryd.internal_strconv_AppendUint_10 (B n u : Nat) (hu64 : u < 18446744073709551616) (sv : Value) (xs : List Value) (w : World) (hown : w.ownsRow B 5 1 sv n xs) (hBw : B ≤ w.heap.size) (hlim : n + 20 ≤ 140737488355328) (htab : Lib.TabIs Tryd.prog w "internal/strconv.uint64pow10" .u64 Lib.pow10Tab) :
    Calls Tryd.prog 55 #[sv, .int .u64 u, .int .i64 10] w fun e w' => ∃ v', e = .returned v' ∧ w'.ownsRow B 5 1 v' (n + (Lib.decDigits u).length) (xs ++ Lib.byteCells (Lib.decDigits u)) ∧ Below B w w' ∧ Lib.OthersKept 5 none w w' := Any.internal_strconv_AppendUint_10 Tryd.laysM288 B n u hu64 sv xs w hown hBw hlim htab
def Tryd.laysM249_ren : Go.Shelf.Ren := ⟨fun | 249 => 54 | 288 => 55 | 283 => 59 | 284 => 60 | 285 => 61 | 286 => 62 | 129 => 64 | 317 => 63 | 318 => 65 | 319 => 66 | 320 => 67 | 337 => 68 | 338 => 69 | n => n, fun | 37 => 80 | 2 => 2 | 3 => 3 | 53 => 68 | 4 => 4 | 9 => 9 | 171 => 93 | 0 => 0 | 173 => 96 | 212 => 100 | 51 => 101 | 5 => 5 | 20 => 20 | 213 => 102 | 46 => 88 | 232 => 105 | 233 => 106 | n => n, fun | 17 => 0 | 18 => 1 | 19 => 2 | n => n⟩
def Tryd.laysM176_ren : Go.Shelf.Ren := ⟨fun | 176 => 43 | 249 => 54 | 288 => 55 | 283 => 59 | 284 => 60 | 285 => 61 | 286 => 62 | 129 => 64 | 317 => 63 | 318 => 65 | 319 => 66 | 320 => 67 | 337 => 68 | 338 => 69 | n => n, fun | 37 => 80 | 2 => 2 | 3 => 3 | 53 => 68 | 4 => 4 | 9 => 9 | 171 => 93 | 0 => 0 | 173 => 96 | 212 => 100 | 51 => 101 | 5 => 5 | 20 => 20 | 213 => 102 | 46 => 88 | 232 => 105 | 233 => 106 | n => n, fun | 17 => 0 | 18 => 1 | 19 => 2 | n => n⟩
theorem Tryd.laysM176 : Go.Proofs.LaysM.n176 Tryd.prog Tryd.laysM176_ren := {
  mixed := by kernel_rfl
  f129 := Tryd.func64.trans (congrArg some (by kernel_rfl))
  f176 := Tryd.func43.trans (congrArg some (by kernel_rfl))
  f249 := Tryd.func54.trans (congrArg some (by kernel_rfl))
  f283 := Tryd.func59.trans (congrArg some (by kernel_rfl))
  f284 := Tryd.func60.trans (congrArg some (by kernel_rfl))
  f285 := Tryd.func61.trans (congrArg some (by kernel_rfl))
  f286 := Tryd.func62.trans (congrArg some (by kernel_rfl))
  f288 := Tryd.func55.trans (congrArg some (by kernel_rfl))
  f317 := Tryd.func63.trans (congrArg some (by kernel_rfl))
  f318 := Tryd.func65.trans (congrArg some (by kernel_rfl))
  f319 := Tryd.func66.trans (congrArg some (by kernel_rfl))
  f320 := Tryd.func67.trans (congrArg some (by kernel_rfl))
  f337 := Tryd.func68.trans (congrArg some (by kernel_rfl))
  f338 := Tryd.func69.trans (congrArg some (by kernel_rfl))
  t0 := Tryd.underlying0
  a0 := Tryd.isAgg0
  z0 := Tryd.sizeOf0
  v0 := Tryd.zeroValue0
  t2 := Tryd.underlying2
  a2 := Tryd.isAgg2
  z2 := Tryd.sizeOf2
  v2 := Tryd.zeroValue2
  t3 := Tryd.underlying3
  a3 := Tryd.isAgg3
  z3 := Tryd.sizeOf3
  v3 := Tryd.zeroValue3
  t4 := Tryd.underlying4
  a4 := Tryd.isAgg4
  z4 := Tryd.sizeOf4
  v4 := Tryd.zeroValue4
  t5 := Tryd.underlying5
  a5 := Tryd.isAgg5
  z5 := Tryd.sizeOf5
  v5 := Tryd.zeroValue5
  t9 := Tryd.underlying9
  a9 := Tryd.isAgg9
  z9 := Tryd.sizeOf9
  v9 := Tryd.zeroValue9
  t20 := Tryd.underlying20
  a20 := Tryd.isAgg20
  z20 := Tryd.sizeOf20
  v20 := Tryd.zeroValue20
  t37 := Tryd.underlying80
  a37 := Tryd.isAgg80
  z37 := Tryd.sizeOf80
  v37 := Tryd.zeroValue80
  t46 := Tryd.underlying88
  a46 := Tryd.isAgg88
  z46 := Tryd.sizeOf88
  v46 := Tryd.zeroValue88
  t51 := Tryd.underlying101
  a51 := Tryd.isAgg101
  z51 := Tryd.sizeOf101
  v51 := Tryd.zeroValue101
  t53 := Tryd.underlying68
  a53 := Tryd.isAgg68
  z53 := Tryd.sizeOf68
  v53 := Tryd.zeroValue68
  t171 := Tryd.underlying93
  a171 := Tryd.isAgg93
  z171 := Tryd.sizeOf93
  v171 := Tryd.zeroValue93
  t173 := Tryd.underlying96
  a173 := Tryd.isAgg96
  z173 := Tryd.sizeOf96
  v173 := Tryd.zeroValue96
  t212 := Tryd.underlying100
  a212 := Tryd.isAgg100
  z212 := Tryd.sizeOf100
  v212 := Tryd.zeroValue100
  t213 := Tryd.underlying102
  a213 := Tryd.isAgg102
  z213 := Tryd.sizeOf102
  t232 := Tryd.underlying105
  a232 := Tryd.isAgg105
  z232 := Tryd.sizeOf105
  v232 := Tryd.zeroValue105
  t233 := Tryd.underlying106
  a233 := Tryd.isAgg106
  z233 := Tryd.sizeOf106
  v233 := Tryd.zeroValue106
  g17 := by kernel_rfl
  g18 := by kernel_rfl
  g19 := by kernel_rfl
  i0 := by kernel_rfl
  i2 := by kernel_rfl
  i3 := by kernel_rfl
  i4 := by kernel_rfl
  i5 := by kernel_rfl
  i9 := by kernel_rfl
  i20 := by kernel_rfl
  i37 := by kernel_rfl
  i46 := by kernel_rfl
  i51 := by kernel_rfl
  i53 := by kernel_rfl
  i171 := by kernel_rfl
  i173 := by kernel_rfl
  i212 := by kernel_rfl
  i232 := by kernel_rfl
  i233 := by kernel_rfl
  m17 := by kernel_rfl
  m18 := by kernel_rfl
  m19 := by kernel_rfl }
open Go.RowKit Go.Sort Go.Lib in
/-- strconv.AppendInt: "AppendInt appends the string form of the integer i, as generated by FormatInt, to dst and returns the extended buffer.": AT BASE 10: WHAT COMES BACK OWNS dst's CELLS AND, BEHIND THEM, i's DECIMAL NUMERAL ('Lib.itoa i': at most 20 bytes), for every int64. Below the call's own blocks nothing has turned. (LAID: no walk: one application.) -/
theorem Tryd.strconv_AppendInt_10 (B n : Nat) (i : Int) (h0 : -9223372036854775808 ≤ i) (h1 : i ≤ 9223372036854775807) (sv : Value) (xs : List Value) (w : World) (hown : w.ownsRow B 5 1 sv n xs) (hBw : B ≤ w.heap.size) (hlim : n + 21 ≤ 140737488355328) (htab : Lib.TabBelow Tryd.prog B w "internal/strconv.uint64pow10" .u64 Lib.pow10Tab) :
    Calls Tryd.prog 43 #[sv, .int .i64 i, .int .i64 10] w fun e w' => ∃ v', e = .returned v' ∧ w'.ownsRow B 5 1 v' (n + (Lib.itoa i).length) (xs ++ Lib.byteCells (Lib.itoa i)) ∧ Below B w w' ∧ Lib.OthersKept 5 none w w' := Any.strconv_AppendInt_10 Tryd.laysM176 B n i h0 h1 sv xs w hown hBw hlim htab
end Go.Proofs
/- strconv.AppendUint at base 10 (the public one), out of the shelf's inner one. -/
namespace Go.Proofs.YtlffiomlpkopbaaDoor
open Go.RowKit Big Go.WideMaps

set_option maxRecDepth 100000 in
set_option maxHeartbeats 1600000 in
theorem AppendUint_any (B n u : Nat) (hu : u < W) (sv : Value) (xs : List Value) (w : World) (hown : w.ownsRow B 5 1 sv n xs) (hBw : B ≤ w.heap.size) (hlim : n + 20 ≤ 140737488355328)
    (htab : Lib.TabIs Tryd.prog w "internal/strconv.uint64pow10" .u64 Lib.pow10Tab) :
    Calls Tryd.prog 44 #[sv, .int .u64 (u : Nat), .int .i64 10] w fun e w' => ∃ v', e = .returned v' ∧ w'.ownsRow B 5 1 v' (n + (Lib.decDigits u).length) (xs ++ Lib.byteCells (Lib.decDigits u)) ∧ Below B w w' ∧ Lib.OthersKept 5 none w w' := by
  have hc := Tryd.internal_strconv_AppendUint_10 B n u hu sv xs w hown hBw hlim htab
  have Hc := hid hc
  clear hc htab hown
  go_enter Tryd.func44, Tryd.ntmps44
  go_wp2_with fail
  refine Hc.out.mono ?_
  rintro e w1 ⟨v1, rfl, h1, h2, h3⟩
  go_wp2
  go_ret
  exact ⟨v1, rfl, h1, h2, h3⟩
theorem AppendInt_any (B n : Nat) (i : Int) (h0 : -9223372036854775808 ≤ i) (h1 : i ≤ 9223372036854775807) (sv : Value) (xs : List Value) (w : World) (hown : w.ownsRow B 5 1 sv n xs) (hBw : B ≤ w.heap.size) (hlim : n + 21 ≤ 140737488355328)
    (htab : Lib.TabBelow Tryd.prog B w "internal/strconv.uint64pow10" .u64 Lib.pow10Tab) :
    Calls Tryd.prog 43 #[sv, .int .i64 i, .int .i64 10] w fun e w' => ∃ v', e = .returned v' ∧ w'.ownsRow B 5 1 v' (n + (Lib.itoa i).length) (xs ++ Lib.byteCells (Lib.itoa i)) ∧ Below B w w' :=
  (Tryd.strconv_AppendInt_10 B n i h0 h1 sv xs w hown hBw hlim htab).mono fun _ _ h => by
    obtain ⟨v', e, o, b, -⟩ := h
    exact ⟨v', e, o, b⟩
theorem byte_new (w : World) (c : Nat) (t : TypeId) : ∀ j u, ([.int .u8 c] : List Value)[j]? = some u → (w.alloc (.cells #[.int .u8 c] t)).cell? ((⟨w.heap.size, 0, none⟩ : Addr).add j) = some u := by
  intro j u hj
  rw [Go.WideShapes.add_plain, cell_of_row _ w.heap.size _ _ t (0, 0) (heap_alloc_new w _), Nat.zero_add]
  simpa using hj
theorem elemBytes : Elem Tryd.prog 80 5 .u8 1 := ⟨Tryd.underlying80, info_parts (by kernel_rfl)⟩
def Tb (B : Nat) (w : World) : Prop := Lib.TabBelow Tryd.prog B w "internal/strconv.uint64pow10" .u64 Lib.pow10Tab
theorem tab_later {w w' : World} (h : Tb w.heap.size w) (hb : Below w.heap.size w w') : Tb w'.heap.size w' := fun w2 h2 => h w2 (hb.trans (h2.mono hb.size))
theorem spaced_append (a b : List (List UInt8)) : spaced (a ++ b) = spaced a ++ spaced b := by simp [spaced]
theorem row_form {w : World} {B : Nat} {e : TypeId} {size : Nat} {v : Value} {n : Nat} {xs : List Value} (h : w.ownsRow B e size v n xs) (hn : 0 < n) : ∃ g cap, v = .slice (some ⟨g, 0, none⟩) n cap ∧ n ≤ cap ∧ g < w.heap.size := by
  rcases h.2 with ⟨rfl, h0⟩ | ⟨g, cap, cur, rfl, hb, hg, k1, k2, k3, k4⟩
  · omega
  · exact ⟨g, cap, rfl, k1, (Array.getElem?_eq_some_iff.1 hg).1⟩
theorem nd_le : ∀ (k u : Nat), u < 10 ^ (k + 1) → Lib.nDigits u ≤ k + 1
  | 0, u, h => by rw [Lib.nDigits_small (by simpa using h)]; exact Nat.le_refl _
  | k + 1, u, h => by
    by_cases hu : u < 10
    · rw [Lib.nDigits_small hu]; omega
    · rw [Lib.nDigits_big hu]
      have := nd_le k (u / 10) (by rw [Nat.pow_succ] at h; omega)
      omega
theorem dec_len (x : Nat) (h : x < W) : (Lib.decDigits x).length ≤ 20 := by
  rw [Lib.decDigits_length]
  exact nd_le 19 x (Nat.lt_of_lt_of_le h (by decide))
theorem itoa_len (x : Int) (h0 : -9223372036854775808 ≤ x) (h1 : x ≤ 9223372036854775807) : (Lib.itoa x).length ≤ 20 := by
  have key : ∀ u : Nat, u ≤ 9223372036854775808 → (Lib.decDigits u).length ≤ 19 := fun u hu => by
    rw [Lib.decDigits_length]
    exact nd_le 18 u (Nat.lt_of_le_of_lt hu (by decide))
  unfold Lib.itoa
  split
  · rw [List.length_cons]
    have := key x.natAbs (by omega)
    omega
  · exact Nat.le_trans (key x.toNat (by omega)) (by omega)
end Go.Proofs.YtlffiomlpkopbaaDoor
/- tables.textOf: the text of a symbol and numbers. -/
namespace Go.Proofs.YtlffiomlpkopbaaDoor
open Go.RowKit Big Go.WideMaps

/-- what is said, as one value -/
def ApV (w : World) (v : Value) (a : Ap) : Prop := ∃ c : List Value, v = .agg c.toArray ∧ ApQ w c a
theorem ApV.below {w w' : World} {v : Value} {a : Ap} (h : ApV w v a) (hb : Below w.heap.size w w') : ApV w' v a := by
  obtain ⟨c, e, h⟩ := h
  exact ⟨c, e, h.below hb⟩
def tbHead (a : Ap) (k : Nat) : List UInt8 := Lib.itoa a.sym ++ spaced ((a.args.take k).map tbArg)
theorem tbHead_next (a : Ap) (k : Nat) (hk : k < a.args.length) : tbHead a (k + 1) = (tbHead a k ++ [32]) ++ tbArg a.args[k] := by
  unfold tbHead
  rw [List.take_succ_eq_append_getElem hk, List.map_append, spaced_append]
  simp [spaced]
theorem tbHead_all (a : Ap) : tbHead a a.args.length = tbText a := by unfold tbHead tbText; rw [List.take_length]
theorem tbSep_len (s : UInt8) (l : List Nat) (h : ∀ x ∈ l, x < W) : (tbSep s (l.map Lib.decDigits)).length ≤ 21 * l.length := by
  induction l with
  | nil => simp [tbSep]
  | cons x l ih =>
    have h1 := ih (fun y hy => h y (by simp [hy]))
    have h2 := dec_len x (h x (by simp))
    have e : tbSep s ((x :: l).map Lib.decDigits) = (s :: Lib.decDigits x) ++ tbSep s (l.map Lib.decDigits) := rfl
    rw [e]
    simp only [List.length_append, List.length_cons]
    omega
theorem tbArg_len (z : Int) (h : sz W z.natAbs ≤ 6) : (tbArg z).length ≤ 126 := by
  have := tbSep_len (tbSign z) (dig W z.natAbs) (fun x hx => small_dig W2 z.natAbs x hx)
  unfold tbArg
  unfold sz at h
  omega

theorem tbText_pos (a : Ap) : 0 < (tbText a).length := by
  have h1 : ∀ u, 0 < (Lib.decDigits u).length := fun u => List.length_pos_iff.2 (dec_none u)
  unfold tbText Lib.itoa
  split
  · simp
  · rw [List.length_append]; have := h1 a.sym.toNat; omega

theorem kept_grown {w w' : World} {B : Nat} {e : TypeId} {size : Nat} {v : Value} {n : Nat} {xs : List Value} (h : w.ownsRow B e size v n xs) (hg : w.grownBy w' v.ownBlock) : Lib.OthersKept e none w w' := by
  intro k o hk _ ho
  refine (hg.block k (Array.getElem?_eq_some_iff.1 hk).1 (fun e1 => ?_)).trans hk
  obtain ⟨c, hc⟩ := row_tag h k e1.symm
  rw [hk] at hc
  injection hc with hc
  exact ho _ _ hc
theorem kept_row {w w' : World} {B : Nat} {e e' : TypeId} {size : Nat} {v : Value} {n : Nat} {xs : List Value} (h : w.ownsRow B e' size v n xs) (hk : Lib.OthersKept e none w w') (hne : e' ≠ e) : w'.ownsRow B e' size v n xs :=
  row_stays h fun k e1 => by
    obtain ⟨c, hc⟩ := row_tag h k e1
    rw [hc]
    exact hk k _ hc (by simp) (fun c fz he => by injection he with _ he; exact hne he)

set_option maxRecDepth 100000 in
set_option maxHeartbeats 6400000 in
theorem textOf_any (v : Value) (a : Ap) (w : World) (ha : ApV w v a) (hz : ApSz a) (htab : Tb w.heap.size w) :
    Calls Tryd.prog 30 #[v] w fun e w' => e = .returned (.string ⟨(tbText a).toArray⟩) ∧ Below w.heap.size w w' := by
  obtain ⟨c, rfl, pa, ca, bn, s, rfl, hn, hr, hw⟩ := ha
  obtain ⟨_, pm, nm, cm, e⟩ := hr.shp
  obtain rfl : s = .slice pm nm cm := by injection e with e; simp at e; exact e.2
  clear e
  have hw2 := hw
  unfold wfI at hw2
  have hr0 : -9223372036854775808 ≤ a.sym ∧ a.sym ≤ 9223372036854775807 := by
    have e : IntKind.min .i64 = -9223372036854775808 := by decide
    have e' : IntKind.max .i64 = 9223372036854775807 := by decide
    simpa only [Lit.wf, e, e', Bool.and_eq_true, decide_eq_true_eq] using hw2
  have hA := hn.cells
  obtain ⟨-, i1, i2, -, i4⟩ := hA
  have I4 := hid i4
  have HN := hid (fun k hk => tbHead_next a k hk)
  have HAll := hid (tbHead_all a)
  have HSz := hid hz
  have H0 : Hid (tbHead a 0 = Lib.itoa a.sym) := hid (by simp [tbHead, spaced])
  obtain ⟨iu, hiu, hiz0, hiz1, hiz2⟩ := elemBytes.row
  obtain ⟨W1, hW⟩ : ∃ W1, W1 = w.alloc (.cells #[.int .i64 a.sym, .slice pa a.args.length ca, .bool bn, .slice pm nm cm] 34) := ⟨_, rfl⟩
  have b0 : Below w.heap.size w W1 := by rw [hW]; exact below1 w _
  have e0 : W1.heap[w.heap.size]? = some (.cells #[.int .i64 a.sym, .slice pa a.args.length ca, .bool bn, .slice pm nm cm] 34 (0, 0)) := by rw [hW]; exact heap_alloc_new w _
  have hz1 : w.heap.size < W1.heap.size := (Array.getElem?_eq_some_iff.1 e0).1
  have Ht1 := hid (tab_later htab b0)
  have HB0 := hid b0
  obtain ⟨y0, y1, y2, y3⟩ := cells4 e0
  have hAp := hid (AppendInt_any W1.heap.size 0 a.sym hr0.1 hr0.2 (.slice none 0 0) [] W1 (World.ownsRow_nil W1 W1.heap.size 5 1) (Nat.le_refl _) (by omega) Ht1.out)
  have hil := itoa_len a.sym hr0.1 hr0.2
  show Calls Tryd.prog 30 #[.agg #[.int .i64 a.sym, .slice pa a.args.length ca, .bool bn, .slice pm nm cm]] w _
  obtain ⟨L, hL⟩ : ∃ L, L = a.args.length := ⟨_, rfl⟩
  have HL := hid hL
  obtain ⟨TX, hTX⟩ : ∃ TX, TX = tbText a := ⟨_, rfl⟩
  have HTX := hid hTX
  have hL8 : L ≤ 8 := by rw [hL]; exact hz.1
  rw [← hL] at hW e0 y1 i1
  rw [← hL, ← hTX]
  clear hn hr hw hw2 i4 hL hTX hz htab hr0
  go_enter Tryd.func30, Tryd.ntmps30
  go_upto_region 1 with fail
  rw [← hW]
  clear hW
  go_wp2_with fail
  refine hAp.out.mono ?_
  rintro e w2 ⟨v2, rfl, ho2, b2⟩
  simp only [Nat.zero_add, List.nil_append] at ho2
  rw [← H0.out] at ho2 hil
  have Ho2 := hid ho2; have B2 := hid b2
  have y1' := (b2.cell (p := ⟨w.heap.size, 1, none⟩) hz1).trans y1
  clear ho2 b2 y0 y1 y2 y3 e0 b0 hAp
  go_wp2_with fail
  go_loopw [15, 3] (fun i o wr => ∃ k : Nat, k ≤ L ∧ i = .int .i64 (k : Nat) ∧ Hid (wr.ownsRow W1.heap.size 5 1 o (tbHead a k).length (Lib.byteCells (tbHead a k))) ∧ Hid ((tbHead a k).length ≤ 20 + 127 * k) ∧ Hid (Below W1.heap.size W1 wr)) (fun i _ _ => L - (intOf i).toNat)
  case atStart => exact ⟨0, Nat.zero_le _, rfl, Ho2, hid (by omega), B2⟩
  case round =>
    obtain ⟨k, hk, rfl, Ho, Hle, Hb⟩ := hrel
    by_cases hlt : k < L
    · have hka : k < a.args.length := by rw [← HL.out]; exact hlt
      have hlt' : (k : Int) < (L : Int) := by omega
      have hI := I4.out (by omega)
      obtain ⟨b, o, rfl, hb, hc⟩ := hI
      obtain ⟨c2, k0, n2, s2, rfl, hraw⟩ := hc k hka
      have hsh := hraw.shp
      obtain ⟨_, q, nq, cq, e⟩ := hsh
      obtain rfl : s2 = .slice q nq cq := by injection e with e; simp at e; exact e.2
      clear e
      have hbw := tbGo Hb.out HB0.out
      have x0 := (hbw.cell (p := ⟨b, o + k * 2, none⟩) hb).trans (k0 0 _ rfl)
      have x1 := (hbw.cell (p := ⟨b, o + k * 2 + 1, none⟩) hb).trans (k0 1 _ rfl)
      have Hnx := hid (HN.out k hka)
      have hsz := HSz.out.2.2 _ (List.getElem_mem hka)
      have hraw := hraw.below hbw
      generalize a.args[k] = z at *
      generalize hXX : tbHead a k = X at *
      generalize hYY : tbHead a (k + 1) = Y at *
      have HY := hid hYY
      obtain ⟨W3, hW3⟩ : ∃ W3, W3 = wr.alloc (.cells #[.bool n2, .slice q nq cq] 32) := ⟨_, rfl⟩
      have b3 : Below wr.heap.size wr W3 := by rw [hW3]; exact below1 wr _
      have e3 : W3.heap[wr.heap.size]? = some (.cells #[.bool n2, .slice q nq cq] 32 (0, 0)) := by rw [hW3]; exact heap_alloc_new wr _
      have ho3 := ownsRow_later Ho.out b3
      have hp3 : Pair W3 wr.heap.size 32 := ⟨_, _, _, _, e3⟩
      have HNm := hid (Norm_own _ z W3 (hraw.below b3))
      obtain ⟨t0, t1, -, -⟩ := two_cells e3
      have Ho3 := hid ho3; have Hp3 := hid hp3; have B3 := hid b3
      have hz3 : W3.heap.size = wr.heap.size + 1 := by rw [hW3, size_alloc]
      clear k0 hc hraw hbw ho3 hp3 b3 e3 hXX hYY HN
      go_upto_region 5 with fail
      rw [← hW3]
      clear hW3 x0 x1
      go_wp2_with fail
      refine HNm.out.mono ?_
      rintro e w4 ⟨v4, rfl, i4, b4⟩
      obtain ⟨s4, rfl, i4⟩ := i4
      obtain ⟨p4, c4, rfl, d1, d2, -, -⟩ := i4.at
      have hp4 := Hp3.out.below b4
      have ho4 := ownsRow_later Ho3.out b4
      obtain ⟨W5, hW5⟩ : ∃ W5, W5 = (w4.setCell ⟨wr.heap.size, 0, none⟩ (.bool (decide (z < 0)))).setCell ⟨wr.heap.size, 1, none⟩ (.slice p4 (dig W z.natAbs).length c4) := ⟨_, rfl⟩
      have hlo := World.ownsRow.lt Ho.out
      have hst : ∀ g, g ≠ wr.heap.size → W5.heap[g]? = w4.heap[g]? := fun g hg => by rw [hW5]; exact (Below.heap_setCell _ _ _ _ hg).trans (Below.heap_setCell _ _ _ _ hg)
      have ho5 := row_stays (w' := W5) ho4 (fun g hg => hst g (by have := (hlo g hg).2; omega))
      have i5 : Own W5 W3.heap.size 68 .u64 (.slice p4 (dig W z.natAbs).length c4) (dig W z.natAbs) := row_stays (w' := W5) i4 (fun g hg => hst g (by have := (World.ownsRow.lt i4 g hg).1; omega))
      have hz4 := b4.size
      have b5 : Below wr.heap.size wr W5 := by rw [hW5]; exact Below.stored (tbGo b4 B3.out) (Nat.le_refl _) _ _
      have e5 : W5.heap[wr.heap.size]? = some (.cells #[.bool (decide (z < 0)), .slice p4 (dig W z.natAbs).length c4] 32 (0, 0)) := by rw [hW5]; exact hp4.put ..
      have hcl := hp4.cells
      obtain ⟨_, _, q0, q1, q2, q3⟩ := hcl
      have E5 := hid e5; have I5 := hid i5; have B5 := hid b5; have Ho5 := hid ho5
      have hs5 : wr.heap.size < W5.heap.size := (Array.getElem?_eq_some_iff.1 e5).1
      have Hlo := hid hlo
      clear b4 i4 hp4 ho4 ho5 hlo e5 i5 b5 Ho3 Hp3 B3 HNm hst
      go_upto_region 6 with fail
      rw [← hW5]
      clear hW5 q0 q1 q2 q3 t0 t1
      obtain ⟨u0, u1, -, -⟩ := two_cells E5.out
      have htb : tbArg z = tbSep (tbSign z) ((dig W z.natAbs).map Lib.decDigits) := rfl
      have hsg : tbSign z = if z < 0 then 45 else 43 := rfl
      have hDD := fun x (hx : x ∈ dig W z.natAbs) => small_dig W2 z.natAbs x hx
      have hDl : (dig W z.natAbs).length ≤ 6 := hsz
      have hcur : ∃ cur fz, True := ⟨0, 0, trivial⟩
      clear hcur hsz
      generalize dig W z.natAbs = DD at *
      have Htb := hid htb; have HDD := hid hDD
      have HLe := Hle.out
      have D1 := hid d1; have D2 := hid d2
      clear htb hDD d1 d2
      by_cases hneg : z < 0
      · have hd : decide (z < 0) = true := by simpa using hneg
        have hsg3 : tbSign z = 45 := by rw [hsg, if_pos hneg]
        rw [hsg3] at Htb
        rw [hd] at u0 E5
        clear hsg hsg3 hd hneg
        have hs3 := Ho5.out.alloc (.cells #[.int .u8 32] 5)
        have hn3 := byte_new W5 32 5
        have hz6 := size_alloc W5 (.cells #[.int .u8 32] 5)
        have b6 := below1 W5 (.cells #[.int .u8 32] 5)
        have hHb := Hb.out.size
        go_upto_region 10 with (at_builtin; refine wpList_append_own _ rfl _ _ 80 rfl W1.heap.size 5 iu _ 1 1 Tryd.underlying80 hiu hiz0 hiz1 hiz2 rfl (by decide) _ X.length _ rfl hs3 ⟨W5.heap.size, 0, none⟩ 1 1 [.int .u8 32] rfl rfl hn3 (by intro u hu; simp at hu; subst hu; rfl) (by simp [maxLen]; omega) (by omega) (by omega) ?_; intro v7 w7 ho7 hg7 _)
        have k7 : Lib.OthersKept 5 none W5 w7 := (Lib.OthersKept.alloc (Lib.OthersKept.refl _ _ W5) _).trans (kept_grown hs3 hg7)
        have b7 : Below W1.heap.size W1 w7 := ((tbGo B5.out Hb.out).trans (b6.mono (by omega))).grown hg7 (by omega) (fun g hg => (World.ownsRow.lt hs3 g hg).1)
        have K7 := hid k7; have B7 := hid b7
        have e7 := k7 _ _ E5.out (by simp) (fun c fz he => by injection he with _ he; revert he; decide)
        clear u0 u1
        obtain ⟨u0, u1, -, -⟩ := two_cells e7
        have hX7 : X ++ [32] ++ tbSep 45 ((DD.take 0).map Lib.decDigits) = X ++ [32] := by simp [tbSep]
        have ho7' : w7.ownsRow W1.heap.size 5 1 v7 (X ++ [32] ++ tbSep 45 ((DD.take 0).map Lib.decDigits)).length (Lib.byteCells (X ++ [32] ++ tbSep 45 ((DD.take 0).map Lib.decDigits))) := by
          rw [hX7]
          simpa [Lib.byteCells] using ho7
        have Ho7 := hid ho7'
        have Hl7 : Hid ((X ++ [32] ++ tbSep 45 ((DD.take 0).map Lib.decDigits)).length ≤ X.length + 1 + 21 * 0) := hid (by rw [hX7]; simp)
        clear ho7 ho7' hg7 hs3 hn3 hz6 b6 k7 b7 e7 hX7
        obtain ⟨wo, hwo⟩ : ∃ wo, wo = w7 := ⟨_, rfl⟩
        go_wp2_with fail
        go_loopw [29, 3] (fun i o wr => ∃ m : Nat, m ≤ DD.length ∧ i = .int .i64 (m : Nat) ∧ Hid (wr.ownsRow W1.heap.size 5 1 o (X ++ [32] ++ tbSep 45 ((DD.take m).map Lib.decDigits)).length (Lib.byteCells (X ++ [32] ++ tbSep 45 ((DD.take m).map Lib.decDigits)))) ∧ Hid ((X ++ [32] ++ tbSep 45 ((DD.take m).map Lib.decDigits)).length ≤ X.length + 1 + 21 * m) ∧ Hid (Below W1.heap.size W1 wr) ∧ Hid (Lib.OthersKept 5 none W5 wr)) (fun i _ _ => DD.length - (intOf i).toNat)
        case atStart => exact ⟨0, Nat.zero_le _, rfl, Ho7, Hl7, B7, K7⟩
        case round =>
          obtain ⟨m, hm, rfl, Hom, Hlm, Hbm, Hkm⟩ := hrel
          by_cases hltm : m < DD.length
          · have hltm' : (m : Int) < (DD.length : Int) := by omega
            have hown := kept_row I5.out Hkm.out (by decide)
            have hat : At wr .u64 (.slice p4 DD.length c4) DD := Own.at (base := W3.heap.size) (e := 68) hown
            obtain ⟨p9, c9, e9, -, -, -, j4⟩ := hat
            injection e9 with e9 _ e10
            subst e9 e10
            obtain ⟨b', o', rfl, hb', hc'⟩ := j4 (by omega)
            have m1 := hc' m hltm
            have hdk : DD[m] < W := HDD.out _ (List.getElem_mem hltm)
            have htk : tbSep 45 ((DD.take (m + 1)).map Lib.decDigits) = tbSep 45 ((DD.take m).map Lib.decDigits) ++ 45 :: Lib.decDigits DD[m] := by
              rw [List.take_succ_eq_append_getElem hltm, List.map_append]; exact tbSep_snoc _ _ _
            have hil := dec_len DD[m] hdk
            generalize DD[m] = x at *
            generalize hZ0 : X ++ [32] ++ tbSep 45 ((DD.take m).map Lib.decDigits) = Z at *
            generalize hY0 : X ++ [32] ++ tbSep 45 ((DD.take (m + 1)).map Lib.decDigits) = Y' at *
            have HY0 := hid hY0
            have Htk : Hid (Y' = Z ++ 45 :: Lib.decDigits x) := hid (by rw [← hY0, htk, ← hZ0]; simp)
            have hx20 := Hlm.out
            have Hil := hid hil
            have Hrx := hid hdk
            clear htk hc' hil hY0 hZ0 hdk hown j4
            have hHb := Hbm.out.size
            have ho3 := Hom.out.alloc (.cells #[.int .u8 45] 5)
            have hn3 := byte_new wr 45 5
            have hz3 := size_alloc wr (.cells #[.int .u8 45] 5)
            have b3 := below1 wr (.cells #[.int .u8 45] 5)
            go_wp2_with (at_builtin; refine wpList_append_own _ rfl _ _ 80 rfl W1.heap.size 5 iu _ 1 1 Tryd.underlying80 hiu hiz0 hiz1 hiz2 rfl (by decide) _ Z.length _ rfl ho3 ⟨wr.heap.size, 0, none⟩ 1 1 [.int .u8 45] rfl rfl hn3 (by intro u hu; simp at hu; subst hu; rfl) (by simp [maxLen]; omega) (by omega) (by omega) ?_; intro v5 w5 ho5 hg5 _)
            have hb5 : Below W1.heap.size W1 w5 := (Hbm.out.trans (b3.mono hHb)).grown hg5 (by omega) (fun g hg => (World.ownsRow.lt ho3 g hg).1)
            have hk5 : Lib.OthersKept 5 none W5 w5 := (Lib.OthersKept.alloc Hkm.out _).trans (kept_grown ho3 hg5)
            have ht5 : Tb w5.heap.size w5 := tab_later (tab_later Ht1.out (hb5.mono (Nat.le_refl _))) (Below.refl _ _)
            have Hb5 := hid hb5; have Hk5 := hid hk5
            have Hc := hid (AppendUint_any W1.heap.size (Z.length + 1) x Hrx.out v5 _ w5 ho5 (by have := hg5.size; omega) (by omega) (Lib.TabBelow.here ht5))
            clear ho3 hn3 b3 hg5 hb5 ht5 ho5 hk5
            go_wp2_with fail
            refine Hc.out.mono ?_
            rintro e w6 ⟨v6, rfl, ho6, hb6, hk6⟩
            have hY : Y'.length = Z.length + 1 + (Lib.decDigits x).length := by rw [Htk.out]; simp; omega
            have hYc : Lib.byteCells Y' = Lib.byteCells Z ++ [.int .u8 45] ++ Lib.byteCells (Lib.decDigits x) := by rw [Htk.out, Lib.byteCells_append]; simp [Lib.byteCells]
            rw [← hY, ← hYc] at ho6
            have Ho6 := hid ho6
            have Hb6 := hid (Hb5.out.trans hb6)
            have Hk6 := hid (Hk5.out.trans hk6)
            have Hle6 : Hid (Y'.length ≤ X.length + 1 + 21 * (m + 1)) := hid (by rw [hY]; have := Hil.out; omega)
            clear ho6 hb6 hY hYc Hc Hil hx20 hk6
            go_wp2_with fail
            go_roundw
            case rel => exact ⟨m + 1, by omega, rfl, by rw [HY0.out]; exact Ho6, by rw [HY0.out]; exact Hle6, Hb6, Hk6⟩
            case measure => simp [intOf]; omega
          · obtain rfl : m = DD.length := by omega
            have hq := Hom.out
            have hq2 := Hlm.out
            rw [List.take_length, ← Htb.out, ← Hnx.out] at hq hq2
            have Hq := hid hq
            have Hq2 : Hid (Y.length ≤ 20 + 127 * (k + 1)) := hid (by omega)
            clear Hom Hlm hq hq2
            go_wp2_with fail
            go_roundw
            case rel => exact ⟨k + 1, by omega, by go_num, by rw [HY.out]; exact Hq, by rw [HY.out]; exact Hq2, Hbm⟩
            case measure => simp [intOf]; omega
      · have hd : decide (z < 0) = false := by simpa using hneg
        have hsg3 : tbSign z = 43 := by rw [hsg, if_neg hneg]
        rw [hsg3] at Htb
        rw [hd] at u0 E5
        clear hsg hsg3 hd hneg
        have hs3 := Ho5.out.alloc (.cells #[.int .u8 32] 5)
        have hn3 := byte_new W5 32 5
        have hz6 := size_alloc W5 (.cells #[.int .u8 32] 5)
        have b6 := below1 W5 (.cells #[.int .u8 32] 5)
        have hHb := Hb.out.size
        go_upto_region 10 with (at_builtin; refine wpList_append_own _ rfl _ _ 80 rfl W1.heap.size 5 iu _ 1 1 Tryd.underlying80 hiu hiz0 hiz1 hiz2 rfl (by decide) _ X.length _ rfl hs3 ⟨W5.heap.size, 0, none⟩ 1 1 [.int .u8 32] rfl rfl hn3 (by intro u hu; simp at hu; subst hu; rfl) (by simp [maxLen]; omega) (by omega) (by omega) ?_; intro v7 w7 ho7 hg7 _)
        have k7 : Lib.OthersKept 5 none W5 w7 := (Lib.OthersKept.alloc (Lib.OthersKept.refl _ _ W5) _).trans (kept_grown hs3 hg7)
        have b7 : Below W1.heap.size W1 w7 := ((tbGo B5.out Hb.out).trans (b6.mono (by omega))).grown hg7 (by omega) (fun g hg => (World.ownsRow.lt hs3 g hg).1)
        have K7 := hid k7; have B7 := hid b7
        have e7 := k7 _ _ E5.out (by simp) (fun c fz he => by injection he with _ he; revert he; decide)
        clear u0 u1
        obtain ⟨u0, u1, -, -⟩ := two_cells e7
        have hX7 : X ++ [32] ++ tbSep 43 ((DD.take 0).map Lib.decDigits) = X ++ [32] := by simp [tbSep]
        have ho7' : w7.ownsRow W1.heap.size 5 1 v7 (X ++ [32] ++ tbSep 43 ((DD.take 0).map Lib.decDigits)).length (Lib.byteCells (X ++ [32] ++ tbSep 43 ((DD.take 0).map Lib.decDigits))) := by
          rw [hX7]
          simpa [Lib.byteCells] using ho7
        have Ho7 := hid ho7'
        have Hl7 : Hid ((X ++ [32] ++ tbSep 43 ((DD.take 0).map Lib.decDigits)).length ≤ X.length + 1 + 21 * 0) := hid (by rw [hX7]; simp)
        clear ho7 ho7' hg7 hs3 hn3 hz6 b6 k7 b7 e7 hX7
        obtain ⟨wo, hwo⟩ : ∃ wo, wo = w7 := ⟨_, rfl⟩
        go_wp2_with fail
        go_loopw [29, 3] (fun i o wr => ∃ m : Nat, m ≤ DD.length ∧ i = .int .i64 (m : Nat) ∧ Hid (wr.ownsRow W1.heap.size 5 1 o (X ++ [32] ++ tbSep 43 ((DD.take m).map Lib.decDigits)).length (Lib.byteCells (X ++ [32] ++ tbSep 43 ((DD.take m).map Lib.decDigits)))) ∧ Hid ((X ++ [32] ++ tbSep 43 ((DD.take m).map Lib.decDigits)).length ≤ X.length + 1 + 21 * m) ∧ Hid (Below W1.heap.size W1 wr) ∧ Hid (Lib.OthersKept 5 none W5 wr)) (fun i _ _ => DD.length - (intOf i).toNat)
        case atStart => exact ⟨0, Nat.zero_le _, rfl, Ho7, Hl7, B7, K7⟩
        case round =>
          obtain ⟨m, hm, rfl, Hom, Hlm, Hbm, Hkm⟩ := hrel
          by_cases hltm : m < DD.length
          · have hltm' : (m : Int) < (DD.length : Int) := by omega
            have hown := kept_row I5.out Hkm.out (by decide)
            have hat : At wr .u64 (.slice p4 DD.length c4) DD := Own.at (base := W3.heap.size) (e := 68) hown
            obtain ⟨p9, c9, e9, -, -, -, j4⟩ := hat
            injection e9 with e9 _ e10
            subst e9 e10
            obtain ⟨b', o', rfl, hb', hc'⟩ := j4 (by omega)
            have m1 := hc' m hltm
            have hdk : DD[m] < W := HDD.out _ (List.getElem_mem hltm)
            have htk : tbSep 43 ((DD.take (m + 1)).map Lib.decDigits) = tbSep 43 ((DD.take m).map Lib.decDigits) ++ 43 :: Lib.decDigits DD[m] := by
              rw [List.take_succ_eq_append_getElem hltm, List.map_append]; exact tbSep_snoc _ _ _
            have hil := dec_len DD[m] hdk
            generalize DD[m] = x at *
            generalize hZ0 : X ++ [32] ++ tbSep 43 ((DD.take m).map Lib.decDigits) = Z at *
            generalize hY0 : X ++ [32] ++ tbSep 43 ((DD.take (m + 1)).map Lib.decDigits) = Y' at *
            have HY0 := hid hY0
            have Htk : Hid (Y' = Z ++ 43 :: Lib.decDigits x) := hid (by rw [← hY0, htk, ← hZ0]; simp)
            have hx20 := Hlm.out
            have Hil := hid hil
            have Hrx := hid hdk
            clear htk hc' hil hY0 hZ0 hdk hown j4
            have hHb := Hbm.out.size
            have ho3 := Hom.out.alloc (.cells #[.int .u8 43] 5)
            have hn3 := byte_new wr 43 5
            have hz3 := size_alloc wr (.cells #[.int .u8 43] 5)
            have b3 := below1 wr (.cells #[.int .u8 43] 5)
            go_wp2_with (at_builtin; refine wpList_append_own _ rfl _ _ 80 rfl W1.heap.size 5 iu _ 1 1 Tryd.underlying80 hiu hiz0 hiz1 hiz2 rfl (by decide) _ Z.length _ rfl ho3 ⟨wr.heap.size, 0, none⟩ 1 1 [.int .u8 43] rfl rfl hn3 (by intro u hu; simp at hu; subst hu; rfl) (by simp [maxLen]; omega) (by omega) (by omega) ?_; intro v5 w5 ho5 hg5 _)
            have hb5 : Below W1.heap.size W1 w5 := (Hbm.out.trans (b3.mono hHb)).grown hg5 (by omega) (fun g hg => (World.ownsRow.lt ho3 g hg).1)
            have hk5 : Lib.OthersKept 5 none W5 w5 := (Lib.OthersKept.alloc Hkm.out _).trans (kept_grown ho3 hg5)
            have ht5 : Tb w5.heap.size w5 := tab_later (tab_later Ht1.out (hb5.mono (Nat.le_refl _))) (Below.refl _ _)
            have Hb5 := hid hb5; have Hk5 := hid hk5
            have Hc := hid (AppendUint_any W1.heap.size (Z.length + 1) x Hrx.out v5 _ w5 ho5 (by have := hg5.size; omega) (by omega) (Lib.TabBelow.here ht5))
            clear ho3 hn3 b3 hg5 hb5 ht5 ho5 hk5
            go_wp2_with fail
            refine Hc.out.mono ?_
            rintro e w6 ⟨v6, rfl, ho6, hb6, hk6⟩
            have hY : Y'.length = Z.length + 1 + (Lib.decDigits x).length := by rw [Htk.out]; simp; omega
            have hYc : Lib.byteCells Y' = Lib.byteCells Z ++ [.int .u8 43] ++ Lib.byteCells (Lib.decDigits x) := by rw [Htk.out, Lib.byteCells_append]; simp [Lib.byteCells]
            rw [← hY, ← hYc] at ho6
            have Ho6 := hid ho6
            have Hb6 := hid (Hb5.out.trans hb6)
            have Hk6 := hid (Hk5.out.trans hk6)
            have Hle6 : Hid (Y'.length ≤ X.length + 1 + 21 * (m + 1)) := hid (by rw [hY]; have := Hil.out; omega)
            clear ho6 hb6 hY hYc Hc Hil hx20 hk6
            go_wp2_with fail
            go_roundw
            case rel => exact ⟨m + 1, by omega, rfl, by rw [HY0.out]; exact Ho6, by rw [HY0.out]; exact Hle6, Hb6, Hk6⟩
            case measure => simp [intOf]; omega
          · obtain rfl : m = DD.length := by omega
            have hq := Hom.out
            have hq2 := Hlm.out
            rw [List.take_length, ← Htb.out, ← Hnx.out] at hq hq2
            have Hq := hid hq
            have Hq2 : Hid (Y.length ≤ 20 + 127 * (k + 1)) := hid (by omega)
            clear Hom Hlm hq hq2
            go_wp2_with fail
            go_roundw
            case rel => exact ⟨k + 1, by omega, by go_num, by rw [HY.out]; exact Hq, by rw [HY.out]; exact Hq2, Hbm⟩
            case measure => simp [intOf]; omega
    · obtain rfl : k = L := by omega
      have hq := Ho.out
      have hq2 := Hle.out
      rw [HL.out, HAll.out, ← HTX.out] at hq hq2
      have hpos : 0 < TX.length := by rw [HTX.out]; exact tbText_pos a
      have hbw := tbGo Hb.out HB0.out
      obtain ⟨gb, cb, rfl, -, -⟩ := row_form hq hpos
      have hconv := run_convert_bytes_back (P := Tryd.prog) wr 80 9 5 ⟨gb, 0, none⟩ cb TX Tryd.underlying80 Tryd.underlying5 Tryd.underlying9 (fun j hj => by
        have := World.ownsRow.cells hq (g := gb) rfl j (.int .u8 (TX[j].toNat : Int)) (by simp [Lib.byteCells, hj])
        exact this)
      have Hbw := hid hbw
      clear Ho Hle Hb hq hbw
      go_wp2_with fail
      go_ret
      exact ⟨rfl, Hbw.out⟩
end Go.Proofs.YtlffiomlpkopbaaDoor
/- (said).first: which is the first of the same; eachOf over it. -/
namespace Go.Proofs.YtlffiomlpkopbaaDoor
open Go.RowKit Big Go.WideMaps

/-- the map of what was said, in memory -/
def SaidAt (w : World) (m : Nat) (l : List Ap) : Prop := ∃ (D : DataW Unit) (n : Nat), w.ownsMap Tryd.prog 9 (plainElem Tryd.prog 3) m n D ∧ n ≤ l.length ∧ SaidIs D (l.map tbText)
theorem SaidAt.made (w : World) : SaidAt (w.alloc (.map #[] 0)) w.heap.size [] := ⟨.map [], 0, World.ownsMap_made (H := Unit) w Tryd.prog 9 (plainElem Tryd.prog 3), by simp, SaidIs.nil⟩
theorem SaidAt.lt {w : World} {m : Nat} {l : List Ap} (h : SaidAt w m l) : m < w.heap.size := by
  obtain ⟨D, n, h, -⟩ := h
  exact h.lt
theorem SaidAt.keep {w w' : World} {m : Nat} {l : List Ap} (h : SaidAt w m l) (he : w'.heap[m]? = w.heap[m]?) : SaidAt w' m l := by
  obtain ⟨D, n, h, r⟩ := h
  obtain ⟨es, clock, hk, q⟩ := h
  exact ⟨D, n, ⟨es, clock, he.trans hk, q⟩, r⟩
theorem SaidAt.below {w w' : World} {m : Nat} {l : List Ap} (h : SaidAt w m l) (hb : Below w.heap.size w w') : SaidAt w' m l := h.keep (hb.block m h.lt)
theorem SaidAt.noWd {w : World} {m : Nat} {l : List Ap} (h : SaidAt w m l) : NoWd w m := by
  obtain ⟨D, n, h, r⟩ := h
  obtain ⟨es, clock, hk, q⟩ := h
  exact NoWd.map hk
theorem zeroIntT (w : World) : (zeroValue 3).run Tryd.prog w = .ok (.int .i64 0) w := by kernel_rfl
theorem key_text (l : List UInt8) (h : l.length ≤ maxLen) : keyOf Tryd.prog 9 (.string ⟨l.toArray⟩) = some (.string l) := by
  simpa using keyOf_string_mk (P := Tryd.prog) Tryd.underlying9 (s := ⟨l.toArray⟩) (by simpa [ByteArray.size] using h)
theorem wf_nat (n : Nat) (h : n < 1000000) : (Lit.int .i64 (n : Nat)).wf = true := by
  have e : IntKind.min .i64 = -9223372036854775808 := by decide
  have e' : IntKind.max .i64 = 9223372036854775807 := by decide
  simp only [Lit.wf, e, e', Bool.and_eq_true, decide_eq_true_eq]
  omega
theorem tbText_len (a : Ap) (hz : ApSz a) (hr : wfI a.sym) : (tbText a).length ≤ maxLen := by
  have hr0 : -9223372036854775808 ≤ a.sym ∧ a.sym ≤ 9223372036854775807 := by
    have hw2 := hr
    unfold wfI at hw2
    have e : IntKind.min .i64 = -9223372036854775808 := by decide
    have e' : IntKind.max .i64 = 9223372036854775807 := by decide
    simpa only [Lit.wf, e, e', Bool.and_eq_true, decide_eq_true_eq] using hw2
  have h1 := itoa_len a.sym hr0.1 hr0.2
  have h2 : ∀ l : List Int, (∀ z ∈ l, sz W z.natAbs ≤ 6) → (spaced (l.map tbArg)).length ≤ 127 * l.length := by
    intro l hl
    induction l with
    | nil => simp [spaced]
    | cons z l ih =>
      have h3 := ih (fun y hy => hl y (by simp [hy]))
      have h4 := tbArg_len z (hl z (by simp))
      have e : spaced ((z :: l).map tbArg) = (32 :: tbArg z) ++ spaced (l.map tbArg) := rfl
      rw [e]
      simp only [List.length_append, List.length_cons]
      omega
  have h3 := h2 a.args hz.2.2
  have h4 := hz.1
  unfold tbText maxLen
  rw [List.length_append]
  omega

set_option maxRecDepth 100000 in
set_option maxHeartbeats 3200000 in
theorem first_any (v : Value) (a : Ap) (l : List Ap) (m : Nat) (w : World) (hm : SaidAt w m l) (ha : ApV w v a) (hz : ApSz a) (hl : l.length < 1000000) (htab : Tb w.heap.size w) :
    Calls Tryd.prog 22 #[.map (some m), .int .i64 (l.length : Nat), v] w fun e w' => e = .returned (.int .i64 (tbFirst (l ++ [a]) a : Nat)) ∧ SaidAt w' m (l ++ [a]) ∧ Apart (fun k => k = m) w w' := by
  have hV := ha
  obtain ⟨c, rfl, pa, ca, bn, s, rfl, hn, hr, hw⟩ := ha
  have hsh := hr.shp
  obtain ⟨_, pm, nm, cm, e⟩ := hsh
  obtain rfl : s = .slice pm nm cm := by injection e with e; simp at e; exact e.2
  clear e
  have hk := key_text (tbText a) (tbText_len a hz hw)
  have hwf := wf_nat l.length hl
  have hf := text_first (l ++ [a]) a
  have hin := text_mem l a
  obtain ⟨W1, hW⟩ : ∃ W1, W1 = w.alloc (.cells #[.int .i64 a.sym, .slice pa a.args.length ca, .bool bn, .slice pm nm cm] 34) := ⟨_, rfl⟩
  have b0 : Below w.heap.size w W1 := by rw [hW]; exact below1 w _
  have e0 : W1.heap[w.heap.size]? = some (.cells #[.int .i64 a.sym, .slice pa a.args.length ca, .bool bn, .slice pm nm cm] 34 (0, 0)) := by rw [hW]; exact heap_alloc_new w _
  obtain ⟨y0, y1, y2, y3⟩ := cells4 e0
  have HT := hid (textOf_any _ a W1 (hV.below b0) hz (tab_later htab b0))
  have HB0 := hid b0
  have HM := hid (hm.below b0)
  have Hfe : Hid ((l ++ [a]).map tbText = l.map tbText ++ [tbText a]) := hid (by simp)
  have Hll : Hid ((l.map tbText).length = l.length) := hid (by simp)
  obtain ⟨r, hr2⟩ : ∃ r, r = tbFirst (l ++ [a]) a := ⟨_, rfl⟩
  rw [← hr2] at hf ⊢
  have Hf := hid hf
  generalize hTX : tbText a = TX at *
  have HTX := hid hTX
  clear hm hV hn hr hw hz b0 e0 hr2 hf hTX htab
  go_enter Tryd.func22, Tryd.ntmps22
  go_upto_region 1 with fail
  rw [← hW]
  clear hW
  go_wp2_with fail
  refine HT.out.mono ?_
  rintro e w2 ⟨rfl, b2⟩
  clear y0 y1 y2 y3
  have HM2 := hid (HM.out.below b2)
  have HB2 := hid (tbGo b2 HB0.out)
  have hmm := HM2.out
  obtain ⟨D, n, hown, hnl, hD⟩ := hmm
  obtain ⟨v0, ps, hrun, hv0⟩ := hown.look_ok (Maps.string_keyed Tryd.underlying9) Tryd.underlying59 (zeroIntT _) (plainElem_int Tryd.underlying3 (by decide)) hk
  rw [hD.has] at hrun
  clear b2 HT
  by_cases hmem : TX ∈ l.map tbText
  · have hc : (l.map tbText).contains TX = true := by simpa using hmem
    rw [hc] at hrun
    have hD2 := hD.old hmem
    obtain ⟨c2, hrun2, hat, -⟩ := hown.lookup_int (Maps.string_keyed Tryd.underlying9) Tryd.underlying59 Tryd.underlying3 (zeroIntT _) hk
    rw [hD2.idx TX (by simp) _] at hat
    have hcr : c2 = (r : Nat) := by
      injection hat with hat
      injection hat with _ hat
      rw [← hat, ← Hf.out, Hfe.out]
    subst hcr
    have HS : Hid (SaidAt w2 m (l ++ [a])) := hid ⟨D, n, hown, by simp; omega, by rw [Hfe.out]; exact hD2⟩
    clear hown hD hD2 hat hc hmem
    go_wp2
    go_ret
    exact ⟨rfl, HS.out, Apart.of_below HB2.out⟩
  · have hc : (l.map tbText).contains TX = false := by simpa using hmem
    rw [hc] at hrun
    have hD2 := hD.new hmem
    rw [Hll.out] at hD2
    have HD2 := hid hD2
    have HHm := hid hown
    have hml := hown.lt
    have Hnl := hid hnl
    clear hown hD hD2 hc hmem
    go_upto_region 5 with (first
      | (at_mapUpdate; refine wpList_mapUpdate_own _ rfl _ _ _ 59 rfl 9 3 (Maps.string_keyed Tryd.underlying9) Tryd.underlying59 _ m n _ rfl HHm.out (by have := Hnl.out; simp [maxLen]; omega) _ _ _ rfl rfl hk _ [] (plainElem_int Tryd.underlying3 hwf) ?_; intro w3 hm3 hg3)
      | go_in)
    obtain ⟨c2, hrun2, hat, -⟩ := hm3.lookup_int (Maps.string_keyed Tryd.underlying9) Tryd.underlying59 Tryd.underlying3 (zeroIntT _) hk
    have HS : Hid (SaidAt w3 m (l ++ [a])) := hid ⟨_, _, hm3, by have := Hnl.out; simp; omega, by rw [Hfe.out]; exact HD2.out⟩
    rw [HD2.out.idx TX (by simp) _] at hat
    have hcr : c2 = (r : Nat) := by
      injection hat with hat
      injection hat with _ hat
      rw [← hat, ← Hf.out, Hfe.out]
    subst hcr
    have HA : Hid (Apart (fun k => k = m) w w3) := hid (Apart.grown (Apart.of_below HB2.out) hg3 (fun k e => by injection e with e; exact e.symm))
    clear hm3 hg3 hat
    go_wp2
    go_ret
    exact ⟨rfl, HS.out, HA.out⟩
end Go.Proofs.YtlffiomlpkopbaaDoor
/- eachOf over (said).first: the first ones of all. -/
namespace Go.Proofs.YtlffiomlpkopbaaDoor
open Go.RowKit Big Go.WideMaps

def IsMp (w : World) (m : Nat) : Prop := ∃ es c, w.heap[m]? = some (.map es c)
theorem SaidAt.isMp {w : World} {m : Nat} {l : List Ap} (h : SaidAt w m l) : IsMp w m := by
  obtain ⟨D, n, h, -⟩ := h
  obtain ⟨es, clock, hk, -⟩ := h
  exact ⟨es, clock, hk⟩
theorem IsMp.ne {w : World} {m b j : Nat} {u : Value} (h : IsMp w m) (hc : w.cell? ⟨b, j, none⟩ = some u) : b ≠ m := by
  rintro rfl
  obtain ⟨es, c, h⟩ := h
  simp [World.cell?, h] at hc
theorem IsMp.noWd {w : World} {m : Nat} (h : IsMp w m) : ∀ b, b = m → NoWd w b := by
  rintro b rfl
  obtain ⟨es, c, h⟩ := h
  exact NoWd.map h
theorem LsIn.mapped {α : Type} {k : Nat} {Q : World → List Value → α → Prop} {w w' : World} {v : Value} {l : List α} {m : Nat} (h : LsIn k Q w v l) (hm : IsMp w m) (ha : Apart (fun b => b = m) w w') (hk : ∀ c x, Q w c x → 0 < c.length) (hQ : ∀ c x, Q w c x → Q w' c x) : LsIn k Q w' v l := by
  obtain ⟨p, cap, rfl, h1, h2, h3, h4⟩ := h
  refine ⟨p, cap, rfl, h1, h2, h3, fun hp => ?_⟩
  obtain ⟨b, off, e, hb, hc⟩ := h4 hp
  refine ⟨b, off, e, Nat.lt_of_lt_of_le hb ha.size, fun i hi => ?_⟩
  obtain ⟨c, k1, k2⟩ := hc i hi
  have h0 := hk c _ k2
  have hne : b ≠ m := hm.ne (k1 0 c[0] (List.getElem?_eq_getElem h0))
  exact ⟨c, fun j u hj => (World.cell?_of_block (w := w) (ha.block b hb hne)).trans (k1 j u hj), hQ c _ k2⟩
theorem NmsIn.mapped {w w' : World} {v : Value} {l : List Int} {m : Nat} (h : NmsIn w v l) (hm : IsMp w m) (ha : Apart (fun b => b = m) w w') : NmsIn w' v l :=
  LsIn.mapped (Q := NmQ) h hm ha (fun c x ⟨_, _, e, _⟩ => by rw [e]; simp) (fun _ _ h => h.quiet ha hm.noWd)
theorem ApQ.mapped {w w' : World} {c : List Value} {a : Ap} {m : Nat} (h : ApQ w c a) (hm : IsMp w m) (ha : Apart (fun b => b = m) w w') : ApQ w' c a := by
  obtain ⟨pa, ca, n, s, e, h1, h2, h3⟩ := h
  exact ⟨pa, ca, n, s, e, h1.mapped hm ha, h2.quiet ha hm.noWd, h3⟩
theorem ApsIn.mapped {w w' : World} {v : Value} {l : List Ap} {m : Nat} (h : ApsIn w v l) (hm : IsMp w m) (ha : Apart (fun b => b = m) w w') : ApsIn w' v l :=
  LsIn.mapped (Q := ApQ) h hm ha (fun c x ⟨_, _, _, _, e, _⟩ => by rw [e]; simp) (fun _ _ h => h.mapped hm ha)
theorem elemInt1 : Elem Tryd.prog 55 3 .i64 8 := ⟨Tryd.underlying55, info_parts (by kernel_rfl)⟩
theorem int_new (w : World) (c : Int) (t : TypeId) : ∀ j u, ([.int .i64 c] : List Value)[j]? = some u → (w.alloc (.cells #[.int .i64 c] t)).cell? ((⟨w.heap.size, 0, none⟩ : Addr).add j) = some u := by
  intro j u hj
  rw [Go.WideShapes.add_plain, cell_of_row _ w.heap.size _ _ t (0, 0) (heap_alloc_new w _), Nat.zero_add]
  simpa using hj
/-- the first ones of all, as values -/
def tbFirsts (l : List Ap) : List Value := l.map (fun a => .int .i64 (tbFirst l a : Nat))
def tbFirstsTo (l : List Ap) (k : Nat) : List Value := (tbFirsts l).take k
theorem tbFirstsTo_next (l : List Ap) (k : Nat) (hk : k < l.length) : tbFirstsTo l (k + 1) = tbFirstsTo l k ++ [.int .i64 (tbFirst l l[k] : Nat)] := by
  unfold tbFirstsTo
  rw [List.take_succ_eq_append_getElem (by unfold tbFirsts; simpa using hk)]
  simp [tbFirsts]
theorem tbFirstsTo_all (l : List Ap) : tbFirstsTo l l.length = tbFirsts l := by
  unfold tbFirstsTo
  rw [List.take_of_length_le (by simp [tbFirsts])]
theorem tb_off {u w w' : World} {m : Nat} (h : Apart (fun k => k = m) u w) (hb : Below w.heap.size w w') : Apart (fun k => k = m) u w' := h.go (Apart.of_below hb)
theorem tab_off {w w' : World} {m B0 : Nat} (htab : Lib.TabBelow Tryd.prog B0 w "internal/strconv.uint64pow10" .u64 Lib.pow10Tab) (h : Apart (fun k => k = m) w w') (hB : B0 ≤ w.heap.size) (hm : B0 ≤ m) : Tb w'.heap.size w' := fun w2 h2 => htab w2 ((h.below hB (fun i e => by omega)).trans (h2.mono (Nat.le_trans hB h.size)))

set_option maxRecDepth 100000 in
set_option maxHeartbeats 3200000 in
theorem eachOf_any (v : Value) (l : List Ap) (m B0 : Nat) (w : World) (h : ApsIn w v l) (hm : SaidAt w m []) (hz : ∀ a ∈ l, ApSz a) (hl : l.length ≤ 1000) (hB0 : B0 ≤ w.heap.size) (hBm : B0 ≤ m)
    (htab : Lib.TabBelow Tryd.prog B0 w "internal/strconv.uint64pow10" .u64 Lib.pow10Tab) :
    Calls Tryd.prog 21 #[v, .func (.func 22) #[.map (some m)] #[]] w fun e w' => ∃ v', e = .returned v' ∧ w'.ownsRow w.heap.size 3 1 v' l.length (tbFirsts l) ∧ SaidAt w' m l ∧ Apart (fun k => k = m) w w' := by
  obtain ⟨p, cap, rfl, i1, i2, -, i4⟩ := h
  unfold maxLen at i2
  obtain ⟨iu, hiu, hiz0, hiz1, hiz2⟩ := elemInt1.row
  have HM0 := hid hm.isMp
  have hmlt := hm.lt
  have I4 := hid i4
  have HN := hid (fun k hk => tbFirstsTo_next l k hk)
  have HA := hid (tbFirstsTo_all l)
  have HT := hid (fun (k : Nat) (hk : k < l.length) => tbFirst_take hk)
  have HZ := hid hz
  have Htab := hid htab
  have HM := hid hm
  have H0 := hid (show l.take 0 = [] by simp)
  have hnil : (tbFirstsTo l 0) = [] := by simp [tbFirstsTo]
  have Hnil := hid hnil
  obtain ⟨L, hL⟩ : ∃ L, L = l.length := ⟨_, rfl⟩
  have HL := hid hL
  rw [← hL] at i1 hl ⊢
  clear hm i4 hz hL htab hnil
  have hzz : (zeroValue 3).run Tryd.prog w = .ok (.int .i64 0) w := zeroIntT w
  go_enter Tryd.func21, Tryd.ntmps21
  go_upto_region 2 with (at_make; refine wpList_make_at rfl _ _ 55 rfl elemInt1 w.heap.size _ _ _ L rfl rfl (by first | rfl | omega | (simp; done)) (by omega) (by simp [maxLen]; omega) (Nat.le_refl _) ?_; intro v1 w1 ho1 hb1 hz1 hv1; clear hv1)
  have HO1 : Hid (w1.ownsRow w.heap.size 3 1 v1 0 (tbFirstsTo l 0)) := hid (by rw [Hnil.out]; exact ho1)
  have HM1 : Hid (SaidAt w1 m (l.take 0)) := hid (by rw [H0.out]; exact HM.out.below hb1)
  have HA1 : Hid (Apart (fun k => k = m) w w1) := hid (Apart.of_below hb1)
  clear ho1 hb1 hz1 hzz
  go_wp2_with fail
  go_loopw [13, 5] (fun i o wr => ∃ k : Nat, k ≤ L ∧ i = .int .i64 (k : Nat) ∧ Hid (wr.ownsRow w.heap.size 3 1 o k (tbFirstsTo l k)) ∧ Hid (SaidAt wr m (l.take k)) ∧ Hid (Apart (fun k => k = m) w wr)) (fun i _ _ => L - (intOf i).toNat)
  case atStart => exact ⟨0, Nat.zero_le _, rfl, HO1, HM1, HA1⟩
  case round =>
    obtain ⟨k, hk, rfl, HO, HS, HAp⟩ := hrel
    by_cases hlt : k < L
    · have hka : k < l.length := by rw [← HL.out]; exact hlt
      have hlt' : (k : Int) < (L : Int) := by omega
      have hI := I4.out (by omega)
      obtain ⟨b, o, rfl, hb, hc⟩ := hI
      obtain ⟨c, k0, hq⟩ := hc k hka
      have hq' := hq.mapped HM0.out HAp.out
      obtain ⟨pa, ca, bn, s, rfl, hn, hr, hw⟩ := hq
      have hsh := hr.shp
      obtain ⟨_, pm, nm, cm, e⟩ := hsh
      obtain rfl : s = .slice pm nm cm := by injection e with e; simp at e; exact e.2
      clear e
      have hbm : b ≠ m := HM0.out.ne (k0 0 _ rfl)
      have x0 := (HAp.out.cell (p := ⟨b, o + k * 4, none⟩) hb hbm).trans (k0 0 _ rfl)
      have x1 := (HAp.out.cell (p := ⟨b, o + k * 4 + 1, none⟩) hb hbm).trans (k0 1 _ rfl)
      have x2 := (HAp.out.cell (p := ⟨b, o + k * 4 + 2, none⟩) hb hbm).trans (k0 2 _ rfl)
      have x3 := (HAp.out.cell (p := ⟨b, o + k * 4 + 3, none⟩) hb hbm).trans (k0 3 _ rfl)
      obtain ⟨W3, hW3⟩ : ∃ W3, W3 = wr.alloc (.cells #[.int .i64 l[k].sym, .slice pa l[k].args.length ca, .bool bn, .slice pm nm cm] 34) := ⟨_, rfl⟩
      have b3 : Below wr.heap.size wr W3 := by rw [hW3]; exact below1 wr _
      have e3 : W3.heap[wr.heap.size]? = some (.cells #[.int .i64 l[k].sym, .slice pa l[k].args.length ca, .bool bn, .slice pm nm cm] 34 (0, 0)) := by rw [hW3]; exact heap_alloc_new wr _
      obtain ⟨y0, y1, y2, y3⟩ := cells4 e3
      have hsz := HZ.out _ (List.getElem_mem hka)
      have hlk : (l.take k).length = k := by simp; omega
      have htb3 := tab_off Htab.out (tb_off HAp.out b3) hB0 hBm
      have hF := first_any (.agg #[.int .i64 l[k].sym, .slice pa l[k].args.length ca, .bool bn, .slice pm nm cm]) l[k] (l.take k) m W3 (HS.out.below b3) ⟨_, rfl, hq'.below b3⟩ hsz (by omega) htb3
      have htk := List.take_succ_eq_append_getElem hka
      rw [← htk, HT.out k hka, hlk] at hF
      have HF := hid hF
      have Hnx := hid (HN.out k hka)
      have HO3 := hid (ownsRow_later HO.out b3)
      have HA3 := hid (tb_off HAp.out b3)
      obtain ⟨r, hr9⟩ : ∃ r, r = tbFirst l l[k] := ⟨_, rfl⟩
      rw [← hr9] at HF Hnx
      generalize l[k].sym = sy at *
      generalize l[k].args.length = na at *
      clear k0 hc hq' hn hr hw hsz hlk hF htk htb3 b3 e3 hr9
      go_upto_region 5 with fail
      rw [← hW3]
      clear hW3 x0 x1 x2 x3
      go_wp2_with fail
      refine HF.out.mono ?_
      rintro e w4 ⟨rfl, hS4, hA4⟩
      have hlo := World.ownsRow.lt HO3.out
      have ho4 := row_stays (w' := w4) HO3.out (fun g hg => hA4.block g (hlo g hg).2 (by have := (hlo g hg).1; omega))
      have ho5 := ho4.alloc (.cells #[.int .i64 (r : Nat)] 3)
      have hn5 := int_new w4 (r : Nat) 3
      have b5 := below1 w4 (.cells #[.int .i64 (r : Nat)] 3)
      have hz5 := size_alloc w4 (.cells #[.int .i64 (r : Nat)] 3)
      have HS4 := hid hS4
      have HA4 := hid (HA3.out.go hA4)
      have hz4 := HA4.out.size
      clear hlo ho4 hS4 hA4
      go_wp2_with (at_builtin; refine wpList_append_own _ rfl _ _ 55 rfl w.heap.size 3 iu _ 1 8 Tryd.underlying55 hiu hiz0 hiz1 hiz2 rfl (by decide) _ k _ rfl ho5 ⟨w4.heap.size, 0, none⟩ 1 1 [.int .i64 (r : Nat)] rfl rfl hn5 (by intro u hu; simp at hu; subst hu; rfl) (by simp [maxLen]; omega) (by omega) (by omega) ?_; intro v7 w7 ho7 hg7 _)
      have HO7 : Hid (w7.ownsRow w.heap.size 3 1 v7 (k + 1) (tbFirstsTo l (k + 1))) := hid (by rw [Hnx.out]; exact ho7)
      have hlo := World.ownsRow.lt ho5
      have HS7 : Hid (SaidAt w7 m (l.take (k + 1))) := hid ((HS4.out.below b5).keep (hg7.block m (by have := HS4.out.lt; omega) (fun e => by have := (hlo m e.symm).1; omega)))
      have HA7 : Hid (Apart (fun k => k = m) w w7) := hid ((HA4.out.trans (Apart.grown (S := fun g => w.heap.size ≤ g) (Apart.of_below b5) hg7 (fun g e => (hlo g e).1)) (fun i hi => .inr hi)))
      clear ho5 hn5 b5 hz5 ho7 hg7 hlo
      go_roundw
      case rel => exact ⟨k + 1, by omega, by go_num, HO7, HS7, HA7⟩
      case measure => simp [intOf]; omega
    · obtain rfl : k = L := by omega
      have hq := HO.out
      rw [HL.out, HA.out, ← HL.out] at hq
      have hs := HS.out
      rw [HL.out, List.take_length] at hs
      have HQ := hid hq; have Hs := hid hs
      clear HO HS hq hs
      go_wp2_with fail
      go_ret
      exact ⟨_, rfl, HQ.out, Hs.out, HAp.out⟩
end Go.Proofs.YtlffiomlpkopbaaDoor
/- whole.Cmp. -/
namespace Go.Proofs.YtlffiomlpkopbaaDoor
open Go.RowKit Big

theorem ord_signs {a b : Int} (h : a.sign ≠ b.sign) : ord a.sign b.sign = ord a b := by
  rcases Int.lt_trichotomy a 0 with h1 | h1 | h1 <;> rcases Int.lt_trichotomy b 0 with h2 | h2 | h2
  all_goals (try subst h1); (try subst h2)
  all_goals (try simp only [Int.sign_eq_neg_one_of_neg, Int.sign_eq_one_of_pos, Int.sign_zero, *] at h ⊢)
  all_goals first | exact absurd rfl h | (unfold ord; (repeat' split) <;> omega)
theorem ord_sizes {a b : Int} (h : a.sign = b.sign) : a.sign * ord a.natAbs b.natAbs = ord a b := by
  rcases Int.lt_trichotomy a 0 with h1 | h1 | h1 <;> rcases Int.lt_trichotomy b 0 with h2 | h2 | h2
  all_goals (try subst h1); (try subst h2)
  all_goals (try simp only [Int.sign_eq_neg_one_of_neg, Int.sign_eq_one_of_pos, Int.sign_zero, *] at h ⊢)
  all_goals first | (exfalso; revert h; decide) | (unfold ord; (repeat' split) <;> omega)
theorem sign_bounds (a : Int) : -1 ≤ a.sign ∧ a.sign ≤ 1 := by
  rcases Int.lt_trichotomy a 0 with h | h | h
  · rw [Int.sign_eq_neg_one_of_neg h]; omega
  · subst h; simp
  · rw [Int.sign_eq_one_of_pos h]; omega
theorem ord_bounds (a b : Int) : -1 ≤ ord a b ∧ ord a b ≤ 1 := by unfold ord; (repeat' split) <;> omega
theorem quiet_add {P : Program} {f : FuncId} {args : Array Value} {w : World} {n : Nat} {v : Value}
    (h : Calls P f args (w.drewN n) fun e w' => e = .returned v ∧ ∃ m, w' = (w.drewN n).drewN m) :
    Calls P f args (w.drewN n) fun e w'' => e = .returned v ∧ ∃ m, w'' = w.drewN m :=
  h.mono fun _ _ ⟨he, m, hm⟩ => ⟨he, n + m, by rw [hm, World.drewN_drewN]⟩

set_option maxHeartbeats 1600000 in
theorem Cmp_any (v0 v1 : Value) (a b : Int) (w : World) (h0 : RawAt w v0 a) (h1 : RawAt w v1 b) : Calls Tryd.prog 23 #[v0, v1] w (RNum .i64 (ord a b) w) := by
  have hne := @ord_signs a b
  have heq := @ord_sizes a b
  have ba := sign_bounds a
  have bb := sign_bounds b
  have g0 : ∀ W, RawAt W v0 a → Calls Tryd.prog 31 #[v0] W (fun e w' => e = .returned (.int .i64 a.sign) ∧ Below W.heap.size W w') := fun W h => Sign_any v0 a W h
  have g1 : ∀ W, RawAt W v1 b → Calls Tryd.prog 31 #[v1] W (fun e w' => e = .returned (.int .i64 b.sign) ∧ Below W.heap.size W w') := fun W h => Sign_any v1 b W h
  have Hne := hid hne; have Heq := hid heq; have G0 := hid g0; have G1 := hid g1
  clear hne heq g0 g1
  obtain ⟨r, hr⟩ : ∃ r, r = ord a b := ⟨_, rfl⟩
  obtain ⟨n0, s0, l0, rfl, a0, b0, c0, ha⟩ := id h0
  obtain ⟨n1, s1, l1, rfl, a1, b1, c1, hb⟩ := id h1
  have na : a.natAbs = val W l0 := by rw [ha, sg_natAbs]
  have nb : b.natAbs = val W l1 := by rw [hb, sg_natAbs]
  rw [← hr] at Hne Heq ⊢
  rw [na, nb] at Heq
  clear hr ha hb na nb
  generalize a.sign = x at *
  generalize b.sign = y at *
  have d0 := hid (strip_dig W2 b0)
  have d1 := hid (strip_dig W2 b1)
  obtain ⟨ba1, ba2⟩ := ba
  obtain ⟨bb1, bb2⟩ := bb
  go_enter Tryd.func23, Tryd.ntmps23
  go_wp2_with fail
  refine (G0.out _ (h0.below ((below1 _ _).alloc (by simp) _))).mono ?_
  rintro e w1 ⟨rfl, hb1⟩
  have W1 := (Two.new w _ _ _ _ _).below hb1
  obtain ⟨c00, c01, c10, c11, z1⟩ := id W1
  have bw : Below w.heap.size w w1 := ((below1 _ _).alloc (by simp) _).trans (hb1.mono (B' := w.heap.size) (by simp; omega))
  go_wp2_with fail
  refine (G1.out _ (h1.below bw)).mono ?_
  rintro e w2 ⟨rfl, hb2⟩
  obtain ⟨e00, e01, e10, e11, z2⟩ := W1.below hb2
  have bw2 : Below w.heap.size w w2 := bw.trans (hb2.mono (B' := w.heap.size) (by omega))
  clear c00 c01 c10 c11 hb1 bw hb2 z1 z2 G0 G1 W1
  have t0 : ∀ n, Calls Tryd.prog 34 #[s0] (w2.drewN n) (fun e w' => e = .returned (cutTo s0 (strip l0).length) ∧ w' = w2.drewN n) := fun n => trim_val s0 l0 _ ((a0.below bw2).drewN n)
  have t1 : ∀ n, Calls Tryd.prog 34 #[s1] (w2.drewN n) (fun e w' => e = .returned (cutTo s1 (strip l1).length) ∧ w' = w2.drewN n) := fun n => trim_val s1 l1 _ ((a1.below bw2).drewN n)
  have t2 : ∀ n, Calls Tryd.prog 33 #[cutTo s0 (strip l0).length, cutTo s1 (strip l1).length] (w2.drewN n) (ROrd (ord (val W l0) (val W l1)) (w2.drewN n)) := fun n =>
    compare_any _ _ _ _ _ (by have := ((a0.below bw2).drewN n).strip; rwa [d0.out] at this ⊢) (by have := ((a1.below bw2).drewN n).strip; rwa [d1.out] at this ⊢)
  have ob := ord_bounds (val W l0) (val W l1)
  have T0 := hid t0; have T1 := hid t1; have T2 := hid t2
  clear t0 t1 t2
  obtain ⟨o, ho⟩ : ∃ o, o = ord (val W l0) (val W l1) := ⟨_, rfl⟩
  rw [← ho] at Heq T2 ob
  clear ho
  obtain ⟨ob1, ob2⟩ := ob
  by_cases hxy : x = y
  · subst hxy
    have Hr : Hid (x * o = r) := Heq.out rfl
    clear Hne Heq
    rcases (by omega : x = -1 ∨ x = 0 ∨ x = 1) with rfl | rfl | rfl
    all_goals
      go_wp2_with fail
      go_quiet ((first
        | (go_at_call_of 34 (s0); exact Calls.quiet_of_same (T0.out _))
        | (go_at_call_of 34 (s1); exact Calls.quiet_of_same (T1.out _))
        | (go_at_call 33; exact quiet_add (T2.out _))))
      go_wp2
      go_ret
      exact ⟨by rw [← Hr.out]; simp, below_drewN bw2 _⟩
  · have hb : (x != y) = true := bne_iff_ne.2 hxy
    have Hr : Hid (ord x y = r) := Hne.out hxy
    go_wp2_with (go_at_call 32; refine (cmpInt_any _ _ _).mono ?_; rintro e w' ⟨rfl, rfl⟩)
    go_ret
    exact ⟨by rw [← Hr.out]; rfl, bw2⟩
end Go.Proofs.YtlffiomlpkopbaaDoor
/- tables.Clash. -/
namespace Go.Proofs.YtlffiomlpkopbaaDoor
open Go.RowKit Big Go.WideMaps

/-- what Clash answers -/
def RClash (r : Int × Int × Bool) (w : World) (e : Ending) (w' : World) : Prop := e = .returned (.tuple #[.int .i64 r.1, .int .i64 r.2.1, .bool r.2.2]) ∧ Below w.heap.size w w'
theorem ord_ne (a b : Int) : (ord a b != 0) = decide (a ≠ b) := by
  unfold ord
  rw [Bool.eq_iff_iff]
  simp
  split
  · simp; omega
  · split
    · simp; omega
    · simp; omega
theorem firsts_at {l : List Ap} {n : Nat} (h : n < l.length) : (tbFirsts l)[n]? = some (.int .i64 (tbFirst l l[n] : Nat)) := by simp [tbFirsts, h]
/-- the parts of what is said, by place -/
theorem ApsIn.at {w : World} {p : Option Addr} {n c : Nat} {l : List Ap} (h : ApsIn w (.slice p n c) l) (hl : 0 < l.length) : ∃ b o, p = some ⟨b, o, none⟩ ∧ b < w.heap.size ∧ ∀ i (hi : i < l.length), ∃ pa ca bn q m d,
    w.cell? ⟨b, o + i * 4, none⟩ = some (.int .i64 l[i].sym) ∧ w.cell? ⟨b, o + i * 4 + 1, none⟩ = some (.slice pa l[i].args.length ca) ∧ w.cell? ⟨b, o + i * 4 + 2, none⟩ = some (.bool bn) ∧ w.cell? ⟨b, o + i * 4 + 3, none⟩ = some (.slice q m d) ∧
    ApQ w [.int .i64 l[i].sym, .slice pa l[i].args.length ca, .bool bn, .slice q m d] l[i] ∧ NmsIn w (.slice pa l[i].args.length ca) l[i].args ∧ RawAt w (.agg #[.bool bn, .slice q m d]) l[i].val ∧ wfI l[i].sym := by
  obtain ⟨-, -, -, -, h4⟩ := h.cells
  obtain ⟨b, o, e, hb, hc⟩ := h4 hl
  refine ⟨b, o, e, hb, fun i hi => ?_⟩
  obtain ⟨c, k0, hq⟩ := hc i hi
  have hq' := hq
  obtain ⟨pa, ca, bn, s, rfl, hn, hr, hw⟩ := hq
  obtain ⟨_, q, m, d, e⟩ := hr.shp
  obtain rfl : s = .slice q m d := by injection e with e; simp at e; exact e.2
  exact ⟨pa, ca, bn, q, m, d, k0 0 _ rfl, k0 1 _ rfl, k0 2 _ rfl, k0 3 _ rfl, hq', hn, hr, hw⟩

set_option maxRecDepth 100000 in
set_option maxHeartbeats 3200000 in
theorem Clash_any (v : Value) (l : List Ap) (w : World) (h : ApsIn w v l) (hz : ∀ a ∈ l, ApSz a) (hl : l.length ≤ 1000) (htab : Tb w.heap.size w) :
    Calls Tryd.prog 10 #[v] w (RClash (tbClash l) w) := by
  have hsh := h
  obtain ⟨p, cap, rfl, i1, i2, -, -⟩ := hsh
  unfold maxLen at i2
  have b1 := below1 w (.map #[] 0)
  have HE := hid (eachOf_any _ l w.heap.size w.heap.size _ (h.below b1) (SaidAt.made w) hz hl b1.size (Nat.le_refl _) (fun w2 h2 => htab w2 (b1.trans h2)))
  have hmm := @run_makeMap Tryd.prog
  have B1 := hid b1
  have HH := hid (fun (hp : 0 < l.length) => h.at hp)
  have HF := hid (fun (n : Nat) (hn : n < l.length) => firsts_at hn)
  have HS := hid (fun (n : Nat) (hn : n < l.length) (hb : tbBad l n = true) (hj : ∀ j, j < n → tbBad l j = false) => tbClash_some hn hb hj)
  have HN := hid (fun (hj : ∀ j, j < l.length → tbBad l j = false) => tbClash_none hj)
  have HK := hid (fun (n : Nat) (hn : n < l.length) => tbFirst_key hn)
  have HV := hid (fun (n : Nat) (hn : n < l.length) => tbBad_at hn)
  obtain ⟨R, hR⟩ : ∃ R, R = tbClash l := ⟨_, rfl⟩
  have HR := hid hR
  obtain ⟨L, hL⟩ : ∃ L, L = l.length := ⟨_, rfl⟩
  have HL := hid hL
  rw [← hL] at i1 hl HE ⊢
  rw [← hR]
  clear h hz htab b1 hR hL
  go_enter Tryd.func10, Tryd.ntmps10
  go_wp2_with fail
  refine HE.out.mono ?_
  rintro e w2 ⟨v2, rfl, ho2, -, ha2⟩
  have b2 : Below w.heap.size w w2 := B1.out.trans (ha2.below (by simp) (fun i e => by omega))
  have B2 := hid b2; have HO := hid ho2
  have hform : ∃ g c, v2 = .slice g L c := ownsRow_shape ho2
  obtain ⟨pv, cv, rfl⟩ := hform
  clear ho2 ha2 b2
  go_wp2_with fail
  go_loopw [12] (fun i wr => ∃ n : Nat, n ≤ L ∧ i = .int .i64 (n : Nat) ∧ Hid (∀ j, j < n → tbBad l j = false) ∧ Hid (Below w2.heap.size w2 wr)) (fun i _ => L - (intOf i).toNat)
  case atStart => exact ⟨0, Nat.zero_le _, rfl, hid (fun j hj => by omega), hid (Below.refl _ _)⟩
  case round =>
    obtain ⟨n, hn, rfl, HJ, HB⟩ := hrel
    by_cases hlt : n < L
    · have hna : n < l.length := by rw [← HL.out]; exact hlt
      have hlt' : (n : Int) < (L : Int) := by omega
      obtain ⟨b, o, rfl, hb, hc⟩ := HH.out (by have := HL.out; omega)
      obtain ⟨gv, cv2, e, -, hgl⟩ := row_form HO.out (by omega)
      injection e with e _ e2
      subst e e2
      have hcell := World.ownsRow.cells HO.out (g := gv) rfl n _ (HF.out n hna)
      rw [Go.WideShapes.add_plain, Nat.zero_add] at hcell
      have x0 := (HB.out.cell (p := ⟨gv, n, none⟩) hgl).trans hcell
      have hkey := HK.out n hna
      obtain ⟨hrl, -⟩ := hkey
      have hv := HV.out n hna
      rw [tbV_at hrl] at hv
      have hs := HS.out n hna
      generalize tbFirst l l[n] = r at *
      have hrl' : (r : Int) < (L : Int) := by have := HL.out; omega
      have hbw := tbGo HB.out B2.out
      obtain ⟨_, _, n1, q1, m1, d1, -, -, y2, y3, -, -, r1, -⟩ := hc r hrl
      obtain ⟨_, _, n2, q2, m2, d2, -, -, z2, z3, -, -, r2, -⟩ := hc n hna
      have HCmp := hid (fun W' (hw : Below wr.heap.size wr W') => Cmp_any _ _ l[r].val l[n].val W' (r1.below (tbGo hw hbw)) (r2.below (tbGo hw hbw)))
      have hod := ord_ne l[r].val l[n].val
      rw [← hv] at hod
      have HSS : Hid (∀ w', Below wr.heap.size wr w' → w'.cell? ⟨b, o + r * 4 + 2, none⟩ = some (.bool n1) ∧ w'.cell? ⟨b, o + r * 4 + 3, none⟩ = some (.slice q1 m1 d1) ∧ w'.cell? ⟨b, o + n * 4 + 2, none⟩ = some (.bool n2) ∧ w'.cell? ⟨b, o + n * 4 + 3, none⟩ = some (.slice q2 m2 d2) ∧ Below wr.heap.size wr w') := hid fun w' hw => by
        have h1 := tbGo hw hbw
        exact ⟨(h1.cell (p := ⟨b, o + r * 4 + 2, none⟩) hb).trans y2, (h1.cell (p := ⟨b, o + r * 4 + 3, none⟩) hb).trans y3, (h1.cell (p := ⟨b, o + n * 4 + 2, none⟩) hb).trans z2, (h1.cell (p := ⟨b, o + n * 4 + 3, none⟩) hb).trans z3, hw⟩
      generalize ord l[r].val l[n].val = od at *
      have Hv := hid hod; have Hs := hid hs
      have HBw := hid hbw
      clear hc hcell hv hs r1 r2 y2 y3 z2 z3 hbw hod
      go_upto_region 4 with fail
      go_region_held3 (fun w' => w'.cell? ⟨b, o + r * 4 + 2, none⟩ = some (.bool n1) ∧ w'.cell? ⟨b, o + r * 4 + 3, none⟩ = some (.slice q1 m1 d1) ∧ w'.cell? ⟨b, o + n * 4 + 2, none⟩ = some (.bool n2) ∧ w'.cell? ⟨b, o + n * 4 + 3, none⟩ = some (.slice q2 m2 d2) ∧ Below wr.heap.size wr w')
        (first | exact HSS.out _ (Below.drew (Below.refl _ _)) | (refine HSS.out _ (tbGo hb1 ?_); go_split_ands; assumption))
        (first | (go_at_call 23; (with_reducible refine (HCmp.out _ (by go_split_ands; assumption)).mono ?_); rintro e w1 ⟨rfl, hb1⟩))
      go_split_ands
      have HBb := hid (show Below wr.heap.size wr w1 by assumption)
      by_cases hbad : tbBad l n = true
      · have hod : (od != 0) = true := by rw [Hv.out]; exact hbad
        have hfin := Hs.out hbad HJ.out
        have Hfin := hid (HR.out.trans hfin)
        go_wp2
        exact bodyPost_ret (v := .tuple #[.int .i64 (r : Nat), .int .i64 (n : Nat), .bool true]) (by simp [results, Tryd.results10, go_sem]) rfl ⟨by rw [Hfin.out], tbGo HBb.out HBw.out⟩
      · have hbad : tbBad l n = false := by simpa using hbad
        have hod : (od != 0) = false := by rw [Hv.out]; exact hbad
        have HJ2 : Hid (∀ j, j < n + 1 → tbBad l j = false) := hid (fun j hj => by
          by_cases e : j = n
          · rw [e]; exact hbad
          · exact HJ.out j (by omega))
        go_wp2_with fail
        go_roundw
        case rel => exact ⟨n + 1, by omega, by go_num, HJ2, hid (tbGo HBb.out HB.out)⟩
        case measure => simp [intOf]; omega
    · obtain rfl : n = L := by omega
      have hfin := HN.out (fun j hj => HJ.out j (by rw [HL.out]; exact hj))
      have Hfin := hid (HR.out.trans hfin)
      have HBw := hid (tbGo HB.out B2.out)
      clear hfin
      go_wp2
      exact bodyPost_ret (v := .tuple #[.int .i64 0, .int .i64 0, .bool false]) (by simp [results, Tryd.results10, go_sem]) rfl ⟨by rw [Hfin.out], HBw.out⟩
end Go.Proofs.YtlffiomlpkopbaaDoor
/- elenchusref01.trim: what is left is the digits without the noughts at the end. -/
namespace Go.Proofs.YtlffiomlpkopbaaDoor
open Go.RowKit Big

set_option maxHeartbeats 400000 in
theorem rtrim_val (v : Value) (l : List Nat) (w : World) (h : At w .i64 v l) :
    Calls Tryd.prog 53 #[v] w (fun e w' => e = .returned (cutTo v (strip l).length) ∧ w' = w) := by
  obtain ⟨p, cap, rfl, h1, h2, h3, h4⟩ := h
  unfold maxLen at h2
  go_enter Tryd.func53, Tryd.ntmps53
  go_wp2
  go_loop [0] (fun s => ∃ k : Nat, k ≤ l.length ∧ s = .slice p k cap ∧ strip (l.take k) = strip l) (fun s => lenOf s)
  case atStart => exact ⟨l.length, Nat.le_refl _, rfl, by rw [List.take_length]⟩
  case round =>
    obtain ⟨k, hk, rfl, hs⟩ := hrel
    have Hs := hid hs; clear hs
    by_cases hk0 : 0 < k
    · obtain ⟨b, off, rfl, hb, hc⟩ := h4 (by omega)
      have hck : w.cell? ⟨b, off + (k - 1), none⟩ = some (.int .i64 (l[k-1]'(by omega) : Nat)) := hc (k - 1) (by omega)
      clear hc h4
      go_wp2
      · go_round
        case rel =>
          have hz : ((l[k-1]'(by omega) : Nat) == 0) = true := by simpa using ‹((l[k-1]'(by omega) : Nat) == (0 : Int)) = true›
          refine ⟨k - 1, by omega, rfl, ?_⟩
          rw [← Hs.out, ← strip_take (k := k - 1) (by omega) (by simpa using hz), Nat.sub_add_cancel hk0]
        case measure => simp [lenOf]; omega
      · have hz : ¬ (l[k-1]'(by omega) : Nat) = 0 := by
          have := ‹((l[k-1]'(by omega) : Nat) == (0 : Int)) = false›
          simpa using this
        have hs := strip_take_ne (l := l) (k := k - 1) (by omega) hz
        rw [Nat.sub_add_cancel hk0, Hs.out] at hs
        go_ret
        exact ⟨by rw [hs, List.length_take, Nat.min_eq_left hk]; rfl, rfl⟩
    · obtain rfl : k = 0 := by omega
      have hs : Hid (strip l = []) := by rw [← Hs.out]; rfl
      go_wp2
      go_ret
      exact ⟨by rw [hs.out]; rfl, rfl⟩
theorem rtrim_any (v : Value) (l : List Nat) (w : World) (h : At w .i64 v l) : Calls Tryd.prog 53 #[v] w (RSame .i64 (strip l) w) :=
  (rtrim_val v l w h).mono fun _ _ ⟨he, hw⟩ => ⟨_, he, by subst hw; exact h.strip, hw.symm⟩
end Go.Proofs.YtlffiomlpkopbaaDoor
/- elenchusref01.at, Digits. -/
namespace Go.Proofs.YtlffiomlpkopbaaDoor
open Go.RowKit Big

set_option maxHeartbeats 400000 in
theorem at_any (v : Value) (l : List Nat) (i : Nat) (w : World) (h : At w .i64 v l) :
    Calls Tryd.prog 57 #[v, .int .i64 (i : Nat)] w fun e w' => e = .returned (.int .i64 (l[i]?.getD 0 : Nat)) ∧ w' = w := by
  obtain ⟨p, cap, rfl, h1, h2, h3, h4⟩ := h
  unfold maxLen at h2
  by_cases hi : i < l.length
  · obtain ⟨b, off, rfl, hb, hc⟩ := h4 (by omega)
    have hck := hc i hi
    have he : Hid (l[i]?.getD 0 = l[i]) := by unfold Hid; simp [hi]
    generalize l[i] = x at *
    clear hc h4
    go_enter Tryd.func57, Tryd.ntmps57
    go_wp2
    go_ret
    exact ⟨by rw [he.out]; rfl, rfl⟩
  · have he : Hid (l[i]?.getD 0 = 0) := by unfold Hid; simp [Nat.le_of_not_lt hi]
    clear h4
    go_enter Tryd.func57, Tryd.ntmps57
    go_wp2
    go_ret
    exact ⟨by rw [he.out]; rfl, rfl⟩

theorem digit_step0 {M : List Nat} {k x V : Nat} (h : M.length = 4 * k + 0) (hv : val D M = V + D ^ (4 * k) * (x % D ^ 0)) : val D (M ++ [x % 65536]) = V + D ^ (4 * k) * (x % D ^ 1) := by
  rw [val_snoc, hv, h, Nat.pow_add]
  have e : x % D ^ 1 = x % D ^ 0 + D ^ 0 * (x % 65536) := by unfold D; omega
  rw [e]; grind
theorem digit_step1 {M : List Nat} {k x V : Nat} (h : M.length = 4 * k + 1) (hv : val D M = V + D ^ (4 * k) * (x % D ^ 1)) : val D (M ++ [x / 65536 % 65536]) = V + D ^ (4 * k) * (x % D ^ 2) := by
  rw [val_snoc, hv, h, Nat.pow_add]
  have e : x % D ^ 2 = x % D ^ 1 + D ^ 1 * (x / 65536 % 65536) := by unfold D; omega
  rw [e]; grind
theorem digit_step2 {M : List Nat} {k x V : Nat} (h : M.length = 4 * k + 2) (hv : val D M = V + D ^ (4 * k) * (x % D ^ 2)) : val D (M ++ [x / 4294967296 % 65536]) = V + D ^ (4 * k) * (x % D ^ 3) := by
  rw [val_snoc, hv, h, Nat.pow_add]
  have e : x % D ^ 3 = x % D ^ 2 + D ^ 2 * (x / 4294967296 % 65536) := by unfold D; omega
  rw [e]; grind
theorem digit_step3 {M : List Nat} {k x V : Nat} (h : M.length = 4 * k + 3) (hv : val D M = V + D ^ (4 * k) * (x % D ^ 3)) : val D (M ++ [x / 281474976710656 % 65536]) = V + D ^ (4 * k) * (x % D ^ 4) := by
  rw [val_snoc, hv, h, Nat.pow_add]
  have e : x % D ^ 4 = x % D ^ 3 + D ^ 3 * (x / 281474976710656 % 65536) := by unfold D; omega
  rw [e]; grind

set_option maxRecDepth 100000 in
set_option maxHeartbeats 1600000 in
theorem Digits_any (v : Value) (l : List Nat) (w : World) (h : At w .u64 v l) (hs : Small W l) (hlen : l.length ≤ 2199023255552) :
    Calls Tryd.prog 42 #[v] w (RAt .i64 (dig D (val W l)) w) := by
  obtain ⟨p, cap, rfl, a1, a2, a3, a4⟩ := h
  unfold maxLen at a2
  go_enter Tryd.func42, Tryd.ntmps42
  go_wp2_with fail
  go_loopw [3, 9] (fun o i wr => ∃ (k : Nat) (L : List Nat), k ≤ l.length ∧ i = .int .i64 (k : Nat) ∧ Own wr w.heap.size 3 .i64 o L ∧ Hid (L.length = 4 * k) ∧ Small D L ∧
      Hid (val D L = val W (l.take k)) ∧ Below w.heap.size w wr) (fun _ i _ => l.length - (intOf i).toNat)
  case atStart => exact ⟨0, [], Nat.zero_le _, rfl, Own.nil _ _ _ _, rfl, small_nil _, rfl, Below.refl _ _⟩
  case round =>
    obtain ⟨k, L, hk, rfl, hown, hLk, hsl, hv, hbel⟩ := hrel
    by_cases hkl : k < l.length
    · obtain ⟨b, off, rfl, hbb, hcell⟩ := a4 (by omega)
      have e0 : wr.cell? ⟨b, off + k, none⟩ = some (.int .u64 (l[k] : Nat)) := (hbel.cell (p := ⟨b, off + k, none⟩) hbb).trans (hcell k hkl)
      have x0 := small_get hs k hkl
      obtain ⟨x, hx⟩ : ∃ x, x = l[k] := ⟨_, rfl⟩
      rw [← hx] at e0 x0
      have Hx := hid hx; clear hx hcell a4
      unfold W at x0
      go_wp2_with fail
      go_loopw [3, 6] (fun o i wq => ∃ (j : Nat) (M : List Nat), j ≤ 4 ∧ i = .int .i64 (j : Nat) ∧ Own wq w.heap.size 3 .i64 o M ∧ Hid (M.length = 4 * k + j) ∧ Small D M ∧
        Hid (val D M = val W (l.take k) + D ^ (4 * k) * (x % D ^ j)) ∧ Below w.heap.size w wq) (fun _ i _ => 4 - (intOf i).toNat)
      case atStart => exact ⟨0, L, Nat.zero_le _, rfl, hown, by unfold Hid at hLk ⊢; omega, hsl, by unfold Hid at hv ⊢; simp [hv, Nat.mod_one], hbel⟩
      case round =>
        obtain ⟨j, M, hj, rfl, hown', hMk, hsM, hvM, hbel'⟩ := hrel
        by_cases hj4 : j < 4
        · rcases (by omega : j = 0 ∨ j = 1 ∨ j = 2 ∨ j = 3) with rfl | rfl | rfl | rfl
          · go_wp2_with (at_builtin; refine wpList_append_at rfl _ _ 55 rfl elemInts w.heap.size _ M rfl (hown'.alloc _) _ [x % 65536] rfl (At.oneI _ _ _ _ _ (by omega)) (by rw [hMk.out]; simp [maxLen]; omega) (by rw [hMk.out]; simp; omega) (by have := hbel'.size; simp; omega) ?_; intro v2 w2 ho2 hb2 hs2)
            go_roundw
            case rel => exact ⟨1, M ++ [x % 65536], by omega, by go_num, ho2, by have := hMk.out; unfold Hid; simp; omega, small_snoc hsM (Nat.mod_lt _ (by decide)),
                digit_step0 hMk.out hvM.out, (hbel'.trans ((below1 _ _).mono hbel'.size)).trans hb2⟩
            case measure => simp [intOf]
          · go_wp2_with (at_builtin; refine wpList_append_at rfl _ _ 55 rfl elemInts w.heap.size _ M rfl (hown'.alloc _) _ [x / 65536 % 65536] rfl (At.oneI _ _ _ _ _ (by omega)) (by rw [hMk.out]; simp [maxLen]; omega) (by rw [hMk.out]; simp; omega) (by have := hbel'.size; simp; omega) ?_; intro v2 w2 ho2 hb2 hs2)
            go_roundw
            case rel => exact ⟨2, M ++ [x / 65536 % 65536], by omega, by go_num, ho2, by have := hMk.out; unfold Hid; simp; omega, small_snoc hsM (Nat.mod_lt _ (by decide)),
                digit_step1 hMk.out hvM.out, (hbel'.trans ((below1 _ _).mono hbel'.size)).trans hb2⟩
            case measure => simp [intOf]
          · go_wp2_with (at_builtin; refine wpList_append_at rfl _ _ 55 rfl elemInts w.heap.size _ M rfl (hown'.alloc _) _ [x / 4294967296 % 65536] rfl (At.oneI _ _ _ _ _ (by omega)) (by rw [hMk.out]; simp [maxLen]; omega) (by rw [hMk.out]; simp; omega) (by have := hbel'.size; simp; omega) ?_; intro v2 w2 ho2 hb2 hs2)
            go_roundw
            case rel => exact ⟨3, M ++ [x / 4294967296 % 65536], by omega, by go_num, ho2, by have := hMk.out; unfold Hid; simp; omega, small_snoc hsM (Nat.mod_lt _ (by decide)),
                digit_step2 hMk.out hvM.out, (hbel'.trans ((below1 _ _).mono hbel'.size)).trans hb2⟩
            case measure => simp [intOf]
          · go_wp2_with (at_builtin; refine wpList_append_at rfl _ _ 55 rfl elemInts w.heap.size _ M rfl (hown'.alloc _) _ [x / 281474976710656 % 65536] rfl (At.oneI _ _ _ _ _ (by omega)) (by rw [hMk.out]; simp [maxLen]; omega) (by rw [hMk.out]; simp; omega) (by have := hbel'.size; simp; omega) ?_; intro v2 w2 ho2 hb2 hs2)
            go_roundw
            case rel => exact ⟨4, M ++ [x / 281474976710656 % 65536], by omega, by go_num, ho2, by have := hMk.out; unfold Hid; simp; omega, small_snoc hsM (Nat.mod_lt _ (by decide)),
                digit_step3 hMk.out hvM.out, (hbel'.trans ((below1 _ _).mono hbel'.size)).trans hb2⟩
            case measure => simp [intOf]
        · obtain rfl : j = 4 := by omega
          have hv4 : Hid (val D M = val W (l.take (k + 1))) := by
            unfold Hid
            rw [hvM.out, val_take_succ W l k hkl, show D ^ (4 * k) = W ^ k by rw [Nat.pow_mul]; rfl, Nat.mod_eq_of_lt (show x < D ^ 4 from x0), Hx.out]
          go_wp2_with fail
          go_roundw
          case rel => exact ⟨k + 1, M, by omega, by go_num, hown', by have := hMk.out; unfold Hid; omega, hsM, hv4, hbel'⟩
          case measure => simp [intOf]; omega
    · obtain rfl : k = l.length := by omega
      have hv' : Hid (strip L = dig D (val W l)) := by
        have := hv.out
        rw [List.take_length] at this
        unfold Hid
        rw [← this, strip_dig D2 hsl]
      clear a4
      go_wp2_with (go_at_call 53; refine (rtrim_any _ L _ hown.at).mono ?_; rintro e w' ⟨v', rfl, hv'', rfl⟩)
      go_ret
      exact ⟨_, rfl, by rw [← hv'.out]; exact hv'', hbel⟩
end Go.Proofs.YtlffiomlpkopbaaDoor
/- elenchusref01.From: digits of sixteen bits as words. -/
namespace Go.Proofs.YtlffiomlpkopbaaDoor
open Go.RowKit Big

theorem take_next (l : List Nat) (i : Nat) : val D (l.take (i + 4)) = val D (l.take i) + D ^ i * (l[i]?.getD 0 + 65536 * (l[i + 1]?.getD 0 + 65536 * (l[i + 2]?.getD 0 + 65536 * l[i + 3]?.getD 0))) := by
  rw [show i + 4 = i + 3 + 1 by rfl, val_take_getD, show i + 3 = i + 2 + 1 by rfl, val_take_getD, show i + 2 = i + 1 + 1 by rfl, val_take_getD, val_take_getD]
  have h1 : D ^ (i + 1) = D ^ i * 65536 := Nat.pow_succ ..
  have h2 : D ^ (i + 1 + 1) = D ^ i * 65536 * 65536 := by rw [Nat.pow_succ, h1]; rfl
  have h3 : D ^ (i + 1 + 1 + 1) = D ^ i * 65536 * 65536 * 65536 := by rw [Nat.pow_succ, h2]; rfl
  rw [h1, h2, h3]
  grind
theorem from_step {L l : List Nat} {i j x0 x1 x2 x3 : Nat} (hi : i = 4 * j) (hL : L.length = j) (hv : val W L = val D (l.take i))
    (h0 : x0 = l[i]?.getD 0) (h1 : x1 = l[i + 1]?.getD 0) (h2 : x2 = l[i + 2]?.getD 0) (h3 : x3 = l[i + 3]?.getD 0) : val W (L ++ [((x3 * 65536 + x2) * 65536 + x1) * 65536 + x0]) = val D (l.take (i + 4)) := by
  rw [take_next, val_snoc, hv, hL, h0, h1, h2, h3, hi, show D ^ (4 * j) = W ^ j by rw [Nat.pow_mul]; rfl]
  grind

theorem num_eq {k : IntKind} {a b : Int} (h : a = b) : Value.int k a = Value.int k b := by rw [h]

/-- what has been put together of four digits -/
def acc (x0 x1 x2 x3 : Nat) : Nat → Nat
  | 0 => ((x3 * 65536 + x2) * 65536 + x1) * 65536 + x0
  | 1 => (x3 * 65536 + x2) * 65536 + x1
  | 2 => x3 * 65536 + x2
  | 3 => x3
  | _ => 0

set_option maxRecDepth 100000 in
set_option maxHeartbeats 3200000 in
theorem From_any (v : Value) (l : List Nat) (w : World) (h : At w .i64 v l) (hs : Small D l) (hlen : l.length ≤ 8796093022208) :
    Calls Tryd.prog 41 #[v] w (RAt .u64 (dig W (val D l)) w) := by
  have hv0 : val D (strip l) = val D l := by rw [strip_dig D2 hs, val_dig D2]
  have hs' : Small D (strip l) := by rw [strip_dig D2 hs]; exact small_dig D2 _
  have hl' : (strip l).length ≤ 8796093022208 := Nat.le_trans (strip_length l) hlen
  have hlast : strip l = dig D (val D l) := strip_dig D2 hs
  have G := hid (rtrim_any v l w h)
  rw [← hv0] at hlast ⊢
  clear h hlen hs hv0
  generalize strip l = l' at *
  have Hl := hid hlast; clear hlast
  go_enter Tryd.func41, Tryd.ntmps41
  go_wp2_with fail
  refine G.out.mono ?_
  rintro e w' ⟨v', rfl, ⟨p, cap, rfl, a1, a2, a3, a4⟩, rfl⟩
  unfold maxLen at a2
  go_wp2_with fail
  go_loopw [3, 4] (fun o s wr => ∃ (i j : Nat) (L : List Nat), i ≤ l'.length + 3 ∧ Hid (i = 4 * j) ∧ s = .int .i64 (i : Nat) ∧ Own wr w.heap.size 68 .u64 o L ∧ Hid (L.length = j) ∧ j ≤ i ∧ Small W L ∧
      Hid (val W L = val D (l'.take i)) ∧ Below w.heap.size w wr) (fun _ s _ => l'.length + 4 - (intOf s).toNat)
  case atStart => exact ⟨0, 0, [], by omega, rfl, rfl, Own.nil _ _ _ _, rfl, by omega, small_nil _, rfl, Below.refl _ _⟩
  case round =>
    obtain ⟨i, j, L, hi, hij, rfl, hown, hLj, hji, hsl, hv, hbel⟩ := hrel
    by_cases hil : i < l'.length
    · obtain ⟨b, off, rfl, hbb, hcell⟩ := a4 (by omega)
      obtain ⟨x0, hx0⟩ : ∃ x, x = l'[i]?.getD 0 := ⟨_, rfl⟩
      obtain ⟨x1, hx1⟩ : ∃ x, x = l'[i + 1]?.getD 0 := ⟨_, rfl⟩
      obtain ⟨x2, hx2⟩ : ∃ x, x = l'[i + 2]?.getD 0 := ⟨_, rfl⟩
      obtain ⟨x3, hx3⟩ : ∃ x, x = l'[i + 3]?.getD 0 := ⟨_, rfl⟩
      have y0 : x0 < 65536 := by rw [hx0]; exact small_getD hs' (by decide) _
      have y1 : x1 < 65536 := by rw [hx1]; exact small_getD hs' (by decide) _
      have y2 : x2 < 65536 := by rw [hx2]; exact small_getD hs' (by decide) _
      have y3 : x3 < 65536 := by rw [hx3]; exact small_getD hs' (by decide) _
      have cell : ∀ m, i + m < l'.length → wr.cell? ⟨b, off + (i + m), none⟩ = some (.int .i64 (l'[i + m]?.getD 0 : Nat)) := fun m hm => by
        rw [(hbel.cell (p := ⟨b, off + (i + m), none⟩) hbb).trans (hcell (i + m) hm)]; simp [hm]
      have zero : ∀ m, ¬ i + m < l'.length → l'[i + m]?.getD 0 = 0 := fun m hm => by rw [List.getElem?_eq_none (by omega)]; rfl
      have Cell := hid cell
      have Zero := hid zero
      have Hx0 := hid hx0; have Hx1 := hid hx1; have Hx2 := hid hx2; have Hx3 := hid hx3
      clear cell zero hx0 hx1 hx2 hx3 hcell a4
      go_wp2_with fail
      obtain ⟨wo, rfl⟩ : ∃ wo : World, wo = wr := ⟨_, rfl⟩
      go_loopw [5, 6] (fun a s wq => ∃ m : Nat, m ≤ 4 ∧ s = .int .i64 ((m : Int) - 1) ∧ a = .int .u64 (acc x0 x1 x2 x3 m : Nat) ∧ wq = wo) (fun _ s _ => (intOf s + 1).toNat)
      case atStart => exact ⟨4, by omega, rfl, rfl, rfl⟩
      case round =>
        obtain ⟨m, hm, rfl, rfl, rfl⟩ := hrel
        by_cases hm0 : 0 < m
        · rcases (by omega : m = 4 ∨ m = 3 ∨ m = 2 ∨ m = 1) with rfl | rfl | rfl | rfl
          · by_cases hin : i + 3 < l'.length
            · skip
              have c := Cell.out 3 hin
              rw [← Hx3.out] at c
              simp only [acc]
              go_wp2
              go_roundw
              case rel => exact ⟨3, by omega, rfl, num_eq (by first | rfl | omega | (simp only; omega)), by trivial⟩
              case measure => simp [intOf]
            · skip
              have hz : x3 = 0 := by rw [Hx3.out]; exact Zero.out 3 hin
              have Hz := hid hz
              clear hz
              simp only [acc]
              go_wp2
              go_roundw
              case rel => exact ⟨3, by omega, rfl, num_eq (by have := Hz.out; first | omega | (simp only; omega)), by trivial⟩
              case measure => simp [intOf]
          · by_cases hin : i + 2 < l'.length
            · skip
              have c := Cell.out 2 hin
              rw [← Hx2.out] at c
              simp only [acc]
              go_wp2
              go_roundw
              case rel => exact ⟨2, by omega, rfl, num_eq (by first | rfl | omega | (simp only; omega)), by trivial⟩
              case measure => simp [intOf]
            · skip
              have hz : x2 = 0 := by rw [Hx2.out]; exact Zero.out 2 hin
              have Hz := hid hz
              clear hz
              simp only [acc]
              go_wp2
              go_roundw
              case rel => exact ⟨2, by omega, rfl, num_eq (by have := Hz.out; first | omega | (simp only; omega)), by trivial⟩
              case measure => simp [intOf]
          · by_cases hin : i + 1 < l'.length
            · skip
              have c := Cell.out 1 hin
              rw [← Hx1.out] at c
              simp only [acc]
              go_wp2
              go_roundw
              case rel => exact ⟨1, by omega, rfl, num_eq (by first | rfl | omega | (simp only; omega)), by trivial⟩
              case measure => simp [intOf]
            · skip
              have hz : x1 = 0 := by rw [Hx1.out]; exact Zero.out 1 hin
              have Hz := hid hz
              clear hz
              simp only [acc]
              go_wp2
              go_roundw
              case rel => exact ⟨1, by omega, rfl, num_eq (by have := Hz.out; first | omega | (simp only; omega)), by trivial⟩
              case measure => simp [intOf]
          · by_cases hin : i + 0 < l'.length
            · skip
              have c := Cell.out 0 hin
              simp only [Nat.add_zero] at c
              rw [← Hx0.out] at c
              simp only [acc]
              go_wp2
              go_roundw
              case rel => exact ⟨0, by omega, rfl, num_eq (by first | rfl | omega | (simp only; omega)), by trivial⟩
              case measure => simp [intOf]
            · exact absurd hil (by simpa using hin)
        · obtain rfl : m = 0 := by omega
          simp only [acc]
          go_wp2_with (at_builtin; refine wpList_append_at rfl _ _ 30 rfl elemNat w.heap.size _ L rfl (hown.alloc _) _ [((x3 * 65536 + x2) * 65536 + x1) * 65536 + x0] rfl (At.oneI _ _ _ _ _ (by omega)) (by rw [hLj.out]; simp [maxLen]; omega) (by rw [hLj.out]; simp; omega) (by have := hbel.size; simp; omega) ?_; intro v2 w2 ho2 hb2 hs2)
          go_roundw
          case rel => exact ⟨i + 4, j + 1, L ++ [((x3 * 65536 + x2) * 65536 + x1) * 65536 + x0], by omega, by have := hij.out; unfold Hid; omega, by go_num, ho2, by have := hLj.out; unfold Hid; simp; omega, by omega,
            small_snoc hsl (by unfold W; omega), from_step hij.out hLj.out hv.out Hx0.out Hx1.out Hx2.out Hx3.out, (hbel.trans ((below1 _ _).mono hbel.size)).trans hb2⟩
          case measure => simp [intOf]; omega
    · have hv' : Hid (L = dig W (val D l')) := by
        have e := hv.out
        rw [val_take_ge _ _ _ (by omega)] at e
        unfold Hid
        rw [← e]
        refine canon W2 hsl ?_
        by_cases hj0 : j = 0
        · left; exact List.eq_nil_of_length_eq_zero (by rw [hLj.out, hj0])
        · right
          have hne : l' ≠ [] := by
            intro h0; have := hij.out; rw [h0] at hi; simp at hi; omega
          have hlen : l'.length = sz D (val D l') := by unfold sz; rw [← Hl.out]
          have hpos : 0 < val D l' := Nat.pos_of_ne_zero fun e0 => by
            have := Hl.out; rw [e0] at this; exact hne this
          have hp := pow_sz_le D2 hpos
          rw [← hlen] at hp
          rw [e, hLj.out]
          refine Nat.le_trans ?_ hp
          rw [show W ^ (j - 1) = D ^ (4 * (j - 1)) by rw [Nat.pow_mul]; rfl]
          exact Nat.pow_le_pow_right (by decide) (by have := hij.out; omega)
      clear a4 hij hv Hl
      go_wp2
      go_ret
      exact ⟨_, rfl, by rw [← hv'.out]; exact hown.at, hbel⟩
end Go.Proofs.YtlffiomlpkopbaaDoor
/- elenchusref01.Whole, Neg. -/
namespace Go.Proofs.YtlffiomlpkopbaaDoor
open Go.RowKit Big

theorem sz4 (n : Nat) : sz D n ≤ 4 * sz W n := by
  refine sz_le_of_lt D2 ?_
  have := lt_pow_sz W2 n
  rwa [Nat.pow_mul, show D ^ 4 = W by rfl]

theorem IntAt.whole {w : World} {neg : Bool} {n : Nat} {p : Option Addr} {len c : Nat} (h : At w .u64 (.slice p len c) (dig W n)) :
    IntAt w (.agg #[.bool (neg && decide (0 < len)), .slice p len c]) (sg neg n) := by
  have hl : len = sz W n := by
    obtain ⟨p', c', hv, r⟩ := h
    cases hv; rfl
  refine ⟨_, ?_, by rw [sg_natAbs]; exact h⟩
  by_cases h0 : n = 0
  · subst h0
    rw [sg_zero]
    have : len = 0 := by rw [hl]; rfl
    subst this
    simp
  · rw [sg_neg neg n h0]
    have : 0 < len := by rw [hl]; exact Nat.pos_of_ne_zero fun e => h0 ((sz_eq_zero W2).1 e)
    simp [this]

set_option maxHeartbeats 800000 in
theorem Whole_any (neg : Bool) (v : Value) (l : List Nat) (w : World) (h : At w .u64 v l) (hs : Small W l) (hlen : l.length ≤ 2199023255552) :
    Calls Tryd.prog 28 #[.bool neg, v] w (RInt (sg neg (val W l)) w) := by
  have hd : ∀ o, Calls Tryd.prog 42 #[v] (w.alloc o) (RAt .i64 (dig D (val W l)) (w.alloc o)) := fun o => Digits_any v l _ (h.alloc o) hs hlen
  have hsz : (dig D (val W l)).length ≤ 8796093022208 := by
    have h1 := sz4 (val W l)
    have h2 := sz_val W2 hs
    show sz D (val W l) ≤ _
    omega
  have Hd := hid hd
  have Hsz := hid hsz
  clear hd hsz
  generalize val W l = n at *
  go_enter Tryd.func28, Tryd.ntmps28
  go_wp2_with fail
  refine (Hd.out _).mono ?_
  rintro e w1 ⟨v1, rfl, h1, hb1⟩
  go_wp2_with fail
  refine (From_any v1 _ w1 h1 (small_dig D2 n) Hsz.out).mono ?_
  rintro e w2 ⟨v2, rfl, h2, hb2⟩
  rw [val_dig D2] at h2
  have hpr : Pair w2 w.heap.size 32 := Pair.below (Pair.below (Pair.new ..) hb1) hb2
  obtain ⟨_, _, q0, q1, q2, q3⟩ := hpr.cells
  have z1 : w.heap.size + 1 ≤ w1.heap.size := by have := hb1.size; simp at this; omega
  have bw : Below w.heap.size w w2 := ((below1 _ _).trans (hb1.mono (B' := w.heap.size) (by simp))).trans (hb2.mono (B' := w.heap.size) (by omega))
  obtain ⟨p, c, rfl, -⟩ := id h2
  have hI := IntAt.whole (neg := neg) h2
  have HI := hid hI
  clear hb1 hb2 h1 h2 hI
  generalize (dig W n).length = len at *
  cases neg
  · go_wp2
    exact bodyPost_ret (v := .agg #[.bool false, .slice p len c]) (by simp [results, Tryd.results28, go_sem, q0, q1]) rfl
      ⟨_, rfl, (show IntAt w2 _ _ from HI.out).stored hpr _ _ _ _, Below.stored bw (by omega) _ _⟩
  · by_cases h0 : 0 < len
    · have hx : Hid (decide (0 < len) = true) := by unfold Hid; simpa using h0
      go_wp2
      exact bodyPost_ret (v := .agg #[.bool true, .slice p len c]) (by simp [results, Tryd.results28, go_sem, q0, q1]) rfl
        ⟨_, rfl, (by have := HI.out; rw [hx.out] at this; exact this.stored hpr _ _ _ _), Below.stored bw (by omega) _ _⟩
    · have hx : Hid (decide (0 < len) = false) := by unfold Hid; simpa using h0
      go_wp2
      exact bodyPost_ret (v := .agg #[.bool false, .slice p len c]) (by simp [results, Tryd.results28, go_sem, q0, q1]) rfl
        ⟨_, rfl, (by have := HI.out; rw [hx.out] at this; exact this.stored hpr _ _ _ _), Below.stored bw (by omega) _ _⟩
end Go.Proofs.YtlffiomlpkopbaaDoor
/- elenchusref01.plus: sums of digits. -/
namespace Go.Proofs.YtlffiomlpkopbaaDoor
open Go.RowKit Big

theorem rplus_step {L l0 l1 : List Nat} {k x y c : Nat} (hl : L.length = k) (hx : x = l0[k]?.getD 0) (hy : y = l1[k]?.getD 0)
    (hv : val D L + c * D ^ k = val D (l0.take k) + val D (l1.take k)) : val D (L ++ [(c + x + y) % 65536]) + (c + x + y) / 65536 * D ^ (k + 1) = val D (l0.take (k + 1)) + val D (l1.take (k + 1)) := by
  rw [val_snoc, val_take_getD, val_take_getD, hl, ← hx, ← hy, Nat.pow_succ]
  exact add_step (by unfold D; omega : x + y + c = (c + x + y) % 65536 + D * ((c + x + y) / 65536)) hv

set_option maxRecDepth 100000 in
set_option maxHeartbeats 1600000 in
theorem rplus_any (v0 v1 : Value) (l0 l1 : List Nat) (w : World) (h0 : At w .i64 v0 l0) (h1 : At w .i64 v1 l1) (s0 : Small D l0) (s1 : Small D l1)
    (hl0 : l0.length ≤ 4398046511104) (hl1 : l1.length ≤ 4398046511104) : Calls Tryd.prog 50 #[v0, v1] w (RAt .i64 (dig D (val D l0 + val D l1)) w) := by
  have g0 : ∀ (k : Nat) W, Below w.heap.size w W → Calls Tryd.prog 57 #[v0, .int .i64 (k : Nat)] W fun e w' => e = .returned (.int .i64 (l0[k]?.getD 0 : Nat)) ∧ w' = W := fun k W hb => at_any v0 l0 k W (h0.below hb)
  have g1 : ∀ (k : Nat) W, Below w.heap.size w W → Calls Tryd.prog 57 #[v1, .int .i64 (k : Nat)] W fun e w' => e = .returned (.int .i64 (l1[k]?.getD 0 : Nat)) ∧ w' = W := fun k W hb => at_any v1 l1 k W (h1.below hb)
  have G0 := hid g0; have G1 := hid g1
  clear g0 g1
  obtain ⟨p0, c0, rfl, a1, a2, a3, -⟩ := h0
  obtain ⟨p1, c1, rfl, b1, b2, b3, -⟩ := h1
  unfold maxLen at a2 b2
  go_enter Tryd.func50, Tryd.ntmps50
  go_wp2_with fail
  go_loopw [5, 6, 7] (fun o c i wr => ∃ (k : Nat) (L : List Nat) (c' : Nat), (k ≤ l0.length ∨ k ≤ l1.length ∨ k ≤ l0.length + 1 ∧ k ≤ l1.length + 1 + l0.length ∧ c' = 0 ∨ (k = l1.length + 1 ∧ c' = 0)) ∧ i = .int .i64 (k : Nat) ∧ c = .int .i64 (c' : Nat) ∧ c' ≤ 1 ∧
      Own wr w.heap.size 3 .i64 o L ∧ Hid (L.length = k) ∧ Small D L ∧ Hid (val D L + c' * D ^ k = val D (l0.take k) + val D (l1.take k)) ∧ Below w.heap.size w wr) (fun _ _ i _ => l0.length + l1.length + 2 - (intOf i).toNat)
  case atStart => exact ⟨0, [], 0, Or.inl (Nat.zero_le _), rfl, rfl, by omega, Own.nil _ _ _ _, rfl, small_nil _, by simp [Hid, val], Below.refl _ _⟩
  case round =>
    obtain ⟨k, L, c', hk, rfl, rfl, hc', hown, hLk, hsl, hv, hbel⟩ := hrel
    obtain ⟨x, hx⟩ : ∃ x, x = l0[k]?.getD 0 := ⟨_, rfl⟩
    obtain ⟨y, hy⟩ : ∃ y, y = l1[k]?.getD 0 := ⟨_, rfl⟩
    have x0 : x < 65536 := by rw [hx]; exact small_getD s0 (by decide) k
    have y0 : y < 65536 := by rw [hy]; exact small_getD s1 (by decide) k
    have t0 := G0.out k wr hbel
    have t1 := G1.out k wr hbel
    rw [← hx] at t0
    rw [← hy] at t1
    have hx0 : l0.length ≤ k → x = 0 := fun h => by rw [hx, List.getElem?_eq_none h]; rfl
    have hy0 : l1.length ≤ k → y = 0 := fun h => by rw [hy, List.getElem?_eq_none h]; rfl
    have T0 := hid t0; have T1 := hid t1
    have Hx := hid hx; have Hy := hid hy
    clear t0 t1 hx hy
    have hk2 : k ≤ l0.length + l1.length + 1 := by omega
    by_cases hgo : k < l0.length ∨ k < l1.length ∨ 0 < c'
    · have hn : (k + 1 ≤ l0.length ∨ k + 1 ≤ l1.length ∨ k + 1 ≤ l0.length + 1 ∧ k + 1 ≤ l1.length + 1 + l0.length ∧ (c' + x + y) / 65536 = 0 ∨ (k + 1 = l1.length + 1 ∧ (c' + x + y) / 65536 = 0)) := by omega
      have Hn := hid hn
      clear hn hk hx0 hy0
      rcases (by omega : k < l0.length ∨ (¬ k < l0.length ∧ k < l1.length) ∨ (¬ k < l0.length ∧ ¬ k < l1.length ∧ 0 < c')) with h | ⟨h, h'⟩ | ⟨h, h', h''⟩
      all_goals
        go_wp2_with fail
        refine T0.out.mono ?_
        rintro e w' ⟨rfl, rfl⟩
        go_wp2_with fail
        refine T1.out.mono ?_
        rintro e w' ⟨rfl, rfl⟩
        go_wp2_with (at_builtin; refine wpList_append_at rfl _ _ 55 rfl elemInts w.heap.size _ L rfl (hown.alloc _) _ [(c' + x + y) % 65536] rfl (At.oneI _ _ _ _ _ (by omega)) (by rw [hLk.out]; simp [maxLen]; omega) (by rw [hLk.out]; simp; omega) (by have := hbel.size; simp; omega) ?_; intro v2 w2 ho2 hb2 hs2)
        go_roundw
        case rel => exact ⟨k + 1, L ++ [(c' + x + y) % 65536], (c' + x + y) / 65536, Hn.out, by go_num, by go_num, by omega, ho2, by have := hLk.out; unfold Hid; simp; omega, small_snoc hsl (Nat.mod_lt _ (by decide)),
          rplus_step hLk.out Hx.out Hy.out hv.out, (hbel.trans ((below1 _ _).mono hbel.size)).trans hb2⟩
        case measure => simp [intOf]; omega
    · have hc0 : c' = 0 := by omega
      subst hc0
      have h : ¬ k < l0.length := by omega
      have h' : ¬ k < l1.length := by omega
      have hv' : Hid (strip L = dig D (val D l0 + val D l1)) := by
        have := hv.out
        rw [val_take_ge _ _ _ (by omega), val_take_ge _ _ _ (by omega), Nat.zero_mul, Nat.add_zero] at this
        unfold Hid
        rw [← this, strip_dig D2 hsl]
      clear hgo hk hx0 hy0
      go_wp2_with (go_at_call 53; refine (rtrim_any _ L _ hown.at).mono ?_; rintro e w' ⟨v', rfl, hv'', rfl⟩)
      go_ret
      exact ⟨_, rfl, by rw [← hv'.out]; exact hv'', hbel⟩
end Go.Proofs.YtlffiomlpkopbaaDoor
/- elenchusref01.less: differences of digits. -/
namespace Go.Proofs.YtlffiomlpkopbaaDoor
open Go.RowKit Big

theorem rless_step {L l0 l1 : List Nat} {k x y c s c2 : Nat} {hk : k < l0.length} (hl : L.length = k) (hx : x = l0[k]) (hy : y = l1[k]?.getD 0) (hs : x + D * c2 = s + y + c)
    (hv : val D L + val D (l1.take k) = val D (l0.take k) + c * D ^ k) : val D (L ++ [s]) + val D (l1.take (k + 1)) = val D (l0.take (k + 1)) + c2 * D ^ (k + 1) := by
  rw [val_snoc, val_take_succ D l0 k hk, val_take_getD, hl, ← hx, ← hy, Nat.pow_succ]
  exact sub_step hs hv

set_option maxRecDepth 100000 in
set_option maxHeartbeats 1600000 in
theorem rless_own (v0 v1 : Value) (l0 l1 : List Nat) (w : World) (h0 : At w .i64 v0 l0) (h1 : At w .i64 v1 l1) (s0 : Small D l0) (s1 : Small D l1)
    (hl0 : l0.length ≤ 4398046511104) (hll : l1.length ≤ l0.length) (hvv : val D l1 ≤ val D l0) : Calls Tryd.prog 52 #[v0, v1] w (ROwn 3 .i64 (dig D (val D l0 - val D l1)) w) := by
  have g1 : ∀ (k : Nat) W, Below w.heap.size w W → ∀ n, Calls Tryd.prog 57 #[v1, .int .i64 (k : Nat)] (W.drewN n) fun e w' => e = .returned (.int .i64 (l1[k]?.getD 0 : Nat)) ∧ w' = W.drewN n := fun k W hb n => at_any v1 l1 k _ ((h1.below hb).drewN n)
  have G1 := hid g1
  clear g1
  have Hvv := hid hvv; clear hvv
  obtain ⟨r, hr⟩ : ∃ r, r = dig D (val D l0 - val D l1) := ⟨_, rfl⟩
  rw [← hr]
  have Hr := hid hr; clear hr
  obtain ⟨p0, c0, rfl, a1, a2, a3, a4⟩ := h0
  obtain ⟨p1, c1, rfl, b1, b2, b3, -⟩ := h1
  unfold maxLen at a2 b2
  go_enter Tryd.func52, Tryd.ntmps52
  go_wp2_with fail
  go_loopw [5, 6, 7] (fun o c i wr => ∃ (k : Nat) (L : List Nat) (c' : Nat), k ≤ l0.length ∧ i = .int .i64 (k : Nat) ∧ c = .int .i64 (c' : Nat) ∧ c' ≤ 1 ∧
      Own wr w.heap.size 3 .i64 o L ∧ Hid (L.length = k) ∧ Small D L ∧ Hid (val D L + val D (l1.take k) = val D (l0.take k) + c' * D ^ k) ∧ Below w.heap.size w wr) (fun _ _ i _ => l0.length - (intOf i).toNat)
  case atStart => exact ⟨0, [], 0, Nat.zero_le _, rfl, rfl, by omega, Own.nil _ _ _ _, rfl, small_nil _, by simp [Hid, val], Below.refl _ _⟩
  case round =>
    obtain ⟨k, L, c', hk, rfl, rfl, hc', hown, hLk, hsl, hv, hbel⟩ := hrel
    by_cases hkl : k < l0.length
    · obtain ⟨b, off, rfl, hbb, hcell⟩ := a4 (by omega)
      have e0 : wr.cell? ⟨b, off + k, none⟩ = some (.int .i64 (l0[k] : Nat)) := (hbel.cell (p := ⟨b, off + k, none⟩) hbb).trans (hcell k hkl)
      have x0 := small_get s0 k hkl
      obtain ⟨x, hx⟩ : ∃ x, x = l0[k] := ⟨_, rfl⟩
      rw [← hx] at e0 x0
      obtain ⟨y, hy⟩ : ∃ y, y = l1[k]?.getD 0 := ⟨_, rfl⟩
      have y0 : y < 65536 := by rw [hy]; exact small_getD s1 (by decide) k
      have t1 := G1.out k wr hbel
      rw [← hy] at t1
      have T1 := hid t1
      have Hx := hid hx; have Hy := hid hy
      clear t1 hx hy hcell a4
      unfold D at x0
      have i0 : (0 : Int) ≤ (k : Int) := by omega
      have i1 : (k : Int) < (l0.length : Int) := by omega
      by_cases hneg : x < y + c'
      · go_wp2_with fail
        go_quiet ((go_at_call 57; exact Calls.quiet_of_same (T1.out _)))
        go_wp2_with (at_builtin; refine wpList_append_at rfl _ _ 55 rfl elemInts w.heap.size _ L rfl ((hown.kept (below_drewN (Below.refl _ _) _)).alloc _) _ [x + 65536 - y - c'] rfl (At.oneI _ _ _ _ _ (by omega)) (by rw [hLk.out]; simp [maxLen]; omega) (by rw [hLk.out]; simp; omega) (by have := hbel.size; simp; omega) ?_; intro v2 w2 ho2 hb2 hs2)
        go_roundw
        case rel => exact ⟨k + 1, L ++ [x + 65536 - y - c'], 1, by omega, by go_num, rfl, by omega, ho2, by have := hLk.out; unfold Hid; simp; omega, small_snoc hsl (show _ < 65536 by omega),
          rless_step hLk.out Hx.out Hy.out (show _ + 65536 * _ = _ by omega) hv.out, ((below_drewN hbel _).trans ((below1 _ _).mono (by have := hbel.size; simp; omega))).trans hb2⟩
        case measure => simp [intOf]; omega
      · go_wp2_with fail
        go_quiet ((go_at_call 57; exact Calls.quiet_of_same (T1.out _)))
        go_wp2_with (at_builtin; refine wpList_append_at rfl _ _ 55 rfl elemInts w.heap.size _ L rfl ((hown.kept (below_drewN (Below.refl _ _) _)).alloc _) _ [x - y - c'] rfl (At.oneI _ _ _ _ _ (by omega)) (by rw [hLk.out]; simp [maxLen]; omega) (by rw [hLk.out]; simp; omega) (by have := hbel.size; simp; omega) ?_; intro v2 w2 ho2 hb2 hs2)
        go_roundw
        case rel => exact ⟨k + 1, L ++ [x - y - c'], 0, by omega, by go_num, rfl, by omega, ho2, by have := hLk.out; unfold Hid; simp; omega, small_snoc hsl (show _ < 65536 by omega),
          rless_step hLk.out Hx.out Hy.out (show _ + 65536 * _ = _ by omega) hv.out, ((below_drewN hbel _).trans ((below1 _ _).mono (by have := hbel.size; simp; omega))).trans hb2⟩
        case measure => simp [intOf]; omega
    · obtain rfl : k = l0.length := by omega
      have hv' : val D L + val D l1 = val D l0 + c' * D ^ l0.length := by
        have := hv.out
        rwa [List.take_length, val_take_ge D l1 _ (by omega)] at this
      have hlt := val_lt (by decide : 0 < D) hsl
      have e : strip L = r := by
        rw [strip_dig D2 hsl, Hr.out]
        have := Hvv.out
        rw [hLk.out] at hlt
        have : c' = 0 := by
          rcases (by omega : c' = 0 ∨ c' = 1) with h | h
          · exact h
          · subst h; omega
        subst this
        congr 1; omega
      have He := hid e; clear hv hv' e hlt a4
      have hst := strip_length L
      have ho' := hown
      obtain ⟨po, co, rfl, -⟩ := id hown.at
      go_wp2_with (go_at_call 53; refine (rtrim_val _ L _ hown.at).mono ?_; rintro e w' ⟨rfl, rfl⟩; simp only [cutTo])
      go_ret
      exact ⟨_, rfl, by rw [← He.out]; have := ho'.take (strip L).length hst; rwa [← strip_is_take] at this, hbel⟩
theorem rless_any (v0 v1 : Value) (l0 l1 : List Nat) (w : World) (h0 : At w .i64 v0 l0) (h1 : At w .i64 v1 l1) (s0 : Small D l0) (s1 : Small D l1)
    (hl0 : l0.length ≤ 4398046511104) (hll : l1.length ≤ l0.length) (hvv : val D l1 ≤ val D l0) : Calls Tryd.prog 52 #[v0, v1] w (RAt .i64 (dig D (val D l0 - val D l1)) w) :=
  (rless_own v0 v1 l0 l1 w h0 h1 s0 s1 hl0 hll hvv).mono fun _ _ ⟨v, he, ho, hb⟩ => ⟨v, he, ho.at, hb⟩
end Go.Proofs.YtlffiomlpkopbaaDoor
