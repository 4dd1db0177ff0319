/- Texts put together: Big, LnMath, Mem, Trim, SmallFns, Own, Plus, Minus, Compare, Mem2, WholeFns, WholeAdd, WholeOwn, Apart, Ls, HalfTrim, Split, DivShort, Join, TimesPlus, TimesHalves, TimesWalk, RefTrim, Digits, From, RefWhole, RefPlus, RefLess, RefCompare, RefNum, WholeCmp, WholeSum, RefAdd, RefSub, RefOf, DivSmall, Same, Few, Copied, Inv, Copies. -/
import Derived.Test.YtjfehknilofdjaaGreatProg
import Derived.WalkKit
import Derived.WalkSpells
import Derived.Deep.QuietTactic
import Derived.BigQuiet
import Derived.WalkSmall
import Derived.Laws.AppendOwnNone
import Derived.Shelf.Spec.BitsCarry
import Derived.Deep.RegionHeld3
import Derived.Laws.BitsAll
import Derived.Deep.AppendLies
/- Plain mathematics of digit lists: the value of a list of digits, its canonical form, and how sums, differences, products and quotients of digits carry. No program is named here. -/
namespace Go.Proofs.YtjfehknilofdjaaGreat.Big

/-- the value of digits, the lowest first -/
def val (B : Nat) : List Nat → Nat
  | [] => 0
  | x :: xs => x + B * val B xs

/-- all digits are below the base -/
def Small (B : Nat) (l : List Nat) : Prop := ∀ x ∈ l, x < B

/-- the digits of a number, with fuel -/
def dg (B : Nat) : Nat → Nat → List Nat
  | 0, _ => []
  | f + 1, n => if n = 0 then [] else (n % B) :: dg B f (n / B)
/-- the digits of a number, none of them above the highest that isn't 0 -/
def dig (B n : Nat) : List Nat := dg B n n
/-- how many digits -/
def sz (B n : Nat) : Nat := (dig B n).length

theorem val_cons (B x : Nat) (l : List Nat) : val B (x :: l) = x + B * val B l := rfl
theorem val_append (B : Nat) (l m : List Nat) : val B (l ++ m) = val B l + B ^ l.length * val B m := by
  induction l with
  | nil => simp [val]
  | cons x l ih => simp only [List.cons_append, val, ih, List.length_cons, Nat.pow_succ]; grind
theorem val_snoc (B : Nat) (l : List Nat) (x : Nat) : val B (l ++ [x]) = val B l + B ^ l.length * x := by
  rw [val_append]; simp [val]
theorem small_nil (B : Nat) : Small B [] := by intro x hx; cases hx
theorem small_cons {B x : Nat} {l : List Nat} (h : x < B) (hl : Small B l) : Small B (x :: l) := by
  intro y hy; cases hy with
  | head => exact h
  | tail _ hy => exact hl y hy
theorem small_append {B : Nat} {l m : List Nat} (hl : Small B l) (hm : Small B m) : Small B (l ++ m) := by
  intro y hy; rcases List.mem_append.1 hy with h | h
  · exact hl y h
  · exact hm y h
theorem small_snoc {B : Nat} {l : List Nat} {x : Nat} (hl : Small B l) (h : x < B) : Small B (l ++ [x]) :=
  small_append hl (small_cons h (small_nil B))
theorem small_left {B : Nat} {l m : List Nat} (h : Small B (l ++ m)) : Small B l := fun x hx => h x (List.mem_append_left _ hx)
theorem small_take {B : Nat} {l : List Nat} (h : Small B l) (k : Nat) : Small B (l.take k) := fun x hx => h x (List.mem_of_mem_take hx)
theorem small_drop {B : Nat} {l : List Nat} (h : Small B l) (k : Nat) : Small B (l.drop k) := fun x hx => h x (List.mem_of_mem_drop hx)
theorem small_get {B : Nat} {l : List Nat} (h : Small B l) (i : Nat) (hi : i < l.length) : l[i] < B := h _ (List.getElem_mem hi)
theorem small_getD {B : Nat} {l : List Nat} (h : Small B l) (hB : 0 < B) (i : Nat) : l[i]?.getD 0 < B := by
  cases hx : l[i]? with
  | none => simpa using hB
  | some x => simpa using h x (List.mem_of_getElem? hx)

theorem val_lt {B : Nat} (hB : 0 < B) : ∀ {l : List Nat}, Small B l → val B l < B ^ l.length
  | [], _ => by simp [val]
  | x :: l, h => by
    have h1 : x < B := h x (by simp)
    have h2 := val_lt hB (l := l) fun y hy => h y (by simp [hy])
    simp only [val, List.length_cons, Nat.pow_succ]
    have : B * val B l + B ≤ B ^ l.length * B := by
      rw [Nat.mul_comm (B ^ l.length)]; calc B * val B l + B = B * (val B l + 1) := by grind
        _ ≤ B * B ^ l.length := Nat.mul_le_mul_left _ h2
    omega
theorem val_take_drop (B : Nat) (l : List Nat) (k : Nat) (hk : k ≤ l.length) : val B l = val B (l.take k) + B ^ k * val B (l.drop k) := by
  conv => lhs; rw [← List.take_append_drop k l]
  rw [val_append, List.length_take, Nat.min_eq_left hk]
theorem take_succ' {α : Type} (l : List α) (k : Nat) (h : k < l.length) : l.take (k + 1) = l.take k ++ [l[k]] := by
  rw [List.take_succ_eq_append_getElem h]
theorem val_take_succ (B : Nat) (l : List Nat) (k : Nat) (h : k < l.length) : val B (l.take (k + 1)) = val B (l.take k) + B ^ k * l[k] := by
  rw [take_succ' l k h, val_snoc, List.length_take, Nat.min_eq_left (by omega)]
theorem val_take_ge (B : Nat) (l : List Nat) (k : Nat) (h : l.length ≤ k) : val B (l.take k) = val B l := by rw [List.take_of_length_le h]
/-- one digit more, which may lie beyond the end -/
theorem val_take_getD (B : Nat) (l : List Nat) (k : Nat) : val B (l.take (k + 1)) = val B (l.take k) + B ^ k * l[k]?.getD 0 := by
  by_cases h : k < l.length
  · rw [val_take_succ B l k h]; simp [h]
  · rw [val_take_ge _ _ _ (by omega), val_take_ge _ _ _ (by omega)]; simp [List.getElem?_eq_none (Nat.le_of_not_lt h)]
theorem val_drop_succ (B : Nat) (l : List Nat) (k : Nat) (h : k < l.length) : val B (l.drop k) = l[k] + B * val B (l.drop (k + 1)) := by
  rw [List.drop_eq_getElem_cons h, val_cons]

theorem dg_fuel {B : Nat} (hB : 2 ≤ B) : ∀ (f g n : Nat), n ≤ f → n ≤ g → dg B f n = dg B g n
  | 0, 0, n, _, _ => rfl
  | 0, g + 1, n, h, _ => by have : n = 0 := by omega
                            subst this; simp [dg]
  | f + 1, 0, n, _, h => by have : n = 0 := by omega
                            subst this; simp [dg]
  | f + 1, g + 1, n, h1, h2 => by
    simp only [dg]
    by_cases h : n = 0
    · simp [h]
    · have hd : n / B < n := Nat.div_lt_self (by omega) (by omega)
      simp only [h, if_false]
      rw [dg_fuel hB f g (n / B) (by omega) (by omega)]
theorem dig_zero (B : Nat) : dig B 0 = [] := rfl
theorem dig_pos {B : Nat} (hB : 2 ≤ B) {n : Nat} (h : 0 < n) : dig B n = (n % B) :: dig B (n / B) := by
  have hd : n / B < n := Nat.div_lt_self h (by omega)
  obtain ⟨m, rfl⟩ : ∃ m, n = m + 1 := ⟨n - 1, by omega⟩
  show dg B (m + 1) (m + 1) = _
  simp only [dg]
  rw [if_neg (by omega), dg_fuel hB m ((m + 1) / B) _ (by omega) (Nat.le_refl _)]
  rfl
theorem dig_one {B : Nat} (hB : 2 ≤ B) {n : Nat} (h : 0 < n) (hn : n < B) : dig B n = [n] := by
  rw [dig_pos hB h, Nat.mod_eq_of_lt hn, Nat.div_eq_of_lt hn, dig_zero]
theorem strong {P : Nat → Prop} (h : ∀ n, (∀ m, m < n → P m) → P n) (n : Nat) : P n := Nat.strongRecOn n h
theorem val_dig {B : Nat} (hB : 2 ≤ B) (n : Nat) : val B (dig B n) = n := by
  induction n using strong with
  | h n ih =>
    by_cases h : n = 0
    · subst h; rfl
    · have hd : n / B < n := Nat.div_lt_self (by omega) (by omega)
      rw [dig_pos hB (by omega), val_cons, ih _ hd]
      exact Nat.mod_add_div n B
theorem small_dig {B : Nat} (hB : 2 ≤ B) (n : Nat) : Small B (dig B n) := by
  induction n using strong with
  | h n ih =>
    by_cases h : n = 0
    · subst h; exact small_nil B
    · have hd : n / B < n := Nat.div_lt_self (by omega) (by omega)
      rw [dig_pos hB (by omega)]
      exact small_cons (Nat.mod_lt _ (by omega)) (ih _ hd)
theorem last_dig {B : Nat} (hB : 2 ≤ B) (n : Nat) : (h : dig B n ≠ []) → (dig B n).getLast h ≠ 0 := by
  induction n using strong with
  | h n ih =>
    intro h
    by_cases h0 : n = 0
    · subst h0; exact absurd rfl h
    · have hd : n / B < n := Nat.div_lt_self (by omega) (by omega)
      by_cases h1 : n / B = 0
      · have e : dig B n = [n % B] := by rw [dig_pos hB (by omega), h1]; rfl
        have : n % B ≠ 0 := by
          intro hm
          have := Nat.mod_add_div n B
          rw [hm, h1] at this; omega
        simp only [e, List.getLast_singleton]; exact this
      · have hne : dig B (n / B) ≠ [] := by rw [dig_pos hB (Nat.pos_of_ne_zero h1)]; simp
        have e : dig B n = (n % B) :: dig B (n / B) := dig_pos hB (by omega)
        have := ih _ hd hne
        simp only [e]
        rw [List.getLast_cons hne]; exact this
/-- a list without a nought at its end is its number's digits -/
theorem canon_last {B : Nat} (hB : 2 ≤ B) : ∀ {l : List Nat}, Small B l → (∀ h : l ≠ [], l.getLast h ≠ 0) → l = dig B (val B l)
  | [], _, _ => rfl
  | x :: l, hs, hl => by
    have hx : x < B := hs x (by simp)
    have hs' : Small B l := fun y hy => hs y (by simp [hy])
    have hl' : ∀ h : l ≠ [], l.getLast h ≠ 0 := by
      intro h; have := hl (by simp); rwa [List.getLast_cons h] at this
    have ih := canon_last hB hs' hl'
    have hpos : 0 < val B (x :: l) := by
      rw [val_cons]
      by_cases hln : l = []
      · subst hln; have := hl (by simp); simp at this; omega
      · have : val B l ≠ 0 := by
          intro h0; rw [h0] at ih; exact hln (by rw [ih]; rfl)
        have : 0 < B * val B l := Nat.mul_pos (by omega) (by omega)
        omega
    rw [dig_pos hB hpos, val_cons, Nat.add_mul_mod_self_left, Nat.mod_eq_of_lt hx, Nat.add_mul_div_left _ _ (by omega : 0 < B), Nat.div_eq_of_lt hx, Nat.zero_add, ← ih]
theorem canon {B : Nat} (hB : 2 ≤ B) {l : List Nat} (hs : Small B l) (h : l = [] ∨ B ^ (l.length - 1) ≤ val B l) : l = dig B (val B l) := by
  refine canon_last hB hs fun hne h0 => ?_
  rcases h with h | h
  · exact hne h
  · have e : l = l.dropLast ++ [0] := by rw [← h0]; exact (List.dropLast_concat_getLast hne).symm
    have hlt := val_lt (by omega : 0 < B) (l := l.dropLast) (fun y hy => hs y (List.dropLast_subset l hy))
    have e2 : val B l = val B l.dropLast := by rw [e, val_snoc]; simp
    rw [List.length_dropLast] at hlt
    omega
theorem canon_val {B : Nat} (hB : 2 ≤ B) {l : List Nat} {n : Nat} (hs : Small B l) (hv : val B l = n) (h : l = [] ∨ B ^ (l.length - 1) ≤ n) : l = dig B n := by
  subst hv; exact canon hB hs h
theorem dig_eq_nil {B : Nat} (hB : 2 ≤ B) {n : Nat} : dig B n = [] ↔ n = 0 :=
  ⟨fun h => by by_cases h0 : n = 0; exact h0; rw [dig_pos hB (by omega)] at h; simp at h, fun h => by subst h; rfl⟩

theorem sz_zero (B : Nat) : sz B 0 = 0 := rfl
theorem sz_pos {B : Nat} (hB : 2 ≤ B) {n : Nat} (h : 0 < n) : sz B n = sz B (n / B) + 1 := by unfold sz; rw [dig_pos hB h]; simp
theorem sz_eq_zero {B : Nat} (hB : 2 ≤ B) {n : Nat} : sz B n = 0 ↔ n = 0 := by
  unfold sz; rw [List.length_eq_zero_iff]; exact dig_eq_nil hB
theorem lt_pow_sz {B : Nat} (hB : 2 ≤ B) (n : Nat) : n < B ^ sz B n := by
  have := val_lt (by omega : 0 < B) (small_dig hB n); rwa [val_dig hB] at this
theorem pow_sz_le {B : Nat} (hB : 2 ≤ B) {n : Nat} (h : 0 < n) : B ^ (sz B n - 1) ≤ n := by
  induction n using strong with
  | h n ih =>
    by_cases h1 : n / B = 0
    · rw [sz_pos hB h, h1]; simp [sz_zero]; omega
    · have hd : n / B < n := Nat.div_lt_self (by omega) (by omega)
      have := ih _ hd (Nat.pos_of_ne_zero h1)
      have hsz : sz B (n / B) ≠ 0 := fun e => h1 ((sz_eq_zero hB).1 e)
      rw [sz_pos hB h, Nat.add_sub_cancel, show sz B (n / B) = sz B (n / B) - 1 + 1 by omega, Nat.pow_succ]
      calc B ^ (sz B (n / B) - 1) * B ≤ n / B * B := Nat.mul_le_mul_right _ this
        _ ≤ n := Nat.div_mul_le_self n B
theorem sz_le_of_lt {B : Nat} (hB : 2 ≤ B) {n k : Nat} (h : n < B ^ k) : sz B n ≤ k := by
  by_cases h0 : n = 0
  · subst h0; rw [sz_zero]; omega
  · have h1 := pow_sz_le hB (n := n) (by omega)
    have h2 : B ^ (sz B n - 1) < B ^ k := Nat.lt_of_le_of_lt h1 h
    have := (Nat.pow_lt_pow_iff_right (a := B) (by omega)).1 h2
    omega
theorem sz_mono {B : Nat} (hB : 2 ≤ B) {n m : Nat} (h : n ≤ m) : sz B n ≤ sz B m :=
  sz_le_of_lt hB (Nat.lt_of_le_of_lt h (lt_pow_sz hB m))
theorem sz_val {B : Nat} (hB : 2 ≤ B) {l : List Nat} (hs : Small B l) : sz B (val B l) ≤ l.length :=
  sz_le_of_lt hB (val_lt (by omega) hs)
theorem sz_mul {B : Nat} (hB : 2 ≤ B) (n m : Nat) : sz B (n * m) ≤ sz B n + sz B m := by
  by_cases h0 : m = 0
  · subst h0; rw [Nat.mul_zero, sz_zero]; omega
  refine sz_le_of_lt hB ?_
  rw [Nat.pow_add]
  exact Nat.mul_lt_mul_of_lt_of_le (lt_pow_sz hB n) (Nat.le_of_lt (lt_pow_sz hB m)) (Nat.pos_of_ne_zero (by have := lt_pow_sz hB m; omega))
theorem sz_add {B : Nat} (hB : 2 ≤ B) {n m k : Nat} (hn : sz B n ≤ k) (hm : sz B m ≤ k) : sz B (n + m) ≤ k + 1 := by
  refine sz_le_of_lt hB ?_
  have h1 := Nat.lt_of_lt_of_le (lt_pow_sz hB n) (Nat.pow_le_pow_right (by omega : 0 < B) hn)
  have h2 := Nat.lt_of_lt_of_le (lt_pow_sz hB m) (Nat.pow_le_pow_right (by omega : 0 < B) hm)
  rw [Nat.pow_succ]
  have : B ^ k * 2 ≤ B ^ k * B := Nat.mul_le_mul_left _ hB
  omega

/-- order by size: more digits, a greater number -/
theorem lt_of_sz_lt {B : Nat} (hB : 2 ≤ B) {n m : Nat} (h : sz B n < sz B m) : n < m := by
  rcases Nat.lt_or_ge n m with h1 | h1
  · exact h1
  · exact absurd (sz_mono hB h1) (by omega)
/-- what is greater in the highest digit at which two lists part is greater -/
theorem val_lt_of_part {B : Nat} {l m : List Nat} {i : Nat} (hl : Small B l) (hi : i < l.length) (him : i < m.length)
    (hd : l.drop (i + 1) = m.drop (i + 1)) (h : l[i] < m[i]) : val B l < val B m := by
  have hB : 0 < B := Nat.lt_of_le_of_lt (Nat.zero_le _) (small_get hl i hi)
  rw [val_take_drop B l i (by omega), val_take_drop B m i (by omega), val_drop_succ B l i hi, val_drop_succ B m i him, hd]
  have hlt := val_lt hB (small_take hl i)
  rw [List.length_take, Nat.min_eq_left (by omega)] at hlt
  have : B ^ i * (l[i] + 1) ≤ B ^ i * m[i] := Nat.mul_le_mul_left _ h
  grind

/-- the strokes of a sum -/
theorem add_step {B x y c s c' P v va vb : Nat} (h : x + y + c = s + B * c') (hv : v + c * P = va + vb) : (v + P * s) + c' * (P * B) = (va + P * x) + (vb + P * y) := by grind
/-- the strokes of a difference -/
theorem sub_step {B x y c s c' P v va vb : Nat} (h : x + B * c' = s + y + c) (hv : v + vb = va + c * P) : (v + P * s) + (vb + P * y) = (va + P * x) + c' * (P * B) := by grind

/-- without the noughts at the end -/
def strip : List Nat → List Nat
  | [] => []
  | x :: l => match strip l with
    | [] => if x = 0 then [] else [x]
    | y :: m => x :: y :: m
theorem strip_dig {B : Nat} (hB : 2 ≤ B) : ∀ {l : List Nat}, Small B l → strip l = dig B (val B l)
  | [], _ => rfl
  | x :: l, hs => by
    have hx : x < B := hs x (by simp)
    have ih := strip_dig hB (l := l) fun y hy => hs y (by simp [hy])
    simp only [strip]
    by_cases h0 : val B l = 0
    · rw [ih, h0, dig_zero]
      simp only [val_cons, h0, Nat.mul_zero, Nat.add_zero]
      by_cases hx0 : x = 0
      · subst hx0; rfl
      · simp only [if_neg hx0]; rw [dig_one hB (by omega) hx]
    · have hne : dig B (val B l) ≠ [] := fun e => h0 ((dig_eq_nil hB).1 e)
      have hpos : 0 < val B (x :: l) := by
        rw [val_cons]; have : 0 < B * val B l := Nat.mul_pos (by omega) (by omega)
        omega
      rw [dig_pos hB hpos, val_cons, Nat.add_mul_mod_self_left, Nat.mod_eq_of_lt hx, Nat.add_mul_div_left _ _ (by omega : 0 < B), Nat.div_eq_of_lt hx, Nat.zero_add, ih]
      cases hh : dig B (val B l) with
      | nil => exact absurd hh hne
      | cons y m => rfl
theorem strip_snoc_zero (l : List Nat) : strip (l ++ [0]) = strip l := by
  induction l with
  | nil => rfl
  | cons x l ih => simp only [List.cons_append, strip, ih]
theorem strip_snoc {l : List Nat} {x : Nat} (h : x ≠ 0) : strip (l ++ [x]) = l ++ [x] := by
  induction l with
  | nil => simp [strip, h]
  | cons y l ih =>
    simp only [List.cons_append, strip, ih]
    cases l <;> rfl
/-- what trim takes off, one at a time -/
theorem strip_take {l : List Nat} {k : Nat} (hk : k < l.length) (h : l[k] = 0) : strip (l.take (k + 1)) = strip (l.take k) := by
  rw [take_succ' l k hk, h, strip_snoc_zero]
theorem strip_take_ne {l : List Nat} {k : Nat} (hk : k < l.length) (h : l[k] ≠ 0) : strip (l.take (k + 1)) = l.take (k + 1) := by
  rw [take_succ' l k hk, strip_snoc h]
theorem strip_length (l : List Nat) : (strip l).length ≤ l.length := by
  induction l with
  | nil => simp [strip]
  | cons x l ih =>
    simp only [strip]
    cases h : strip l with
    | nil => by_cases hx : x = 0 <;> simp [hx]
    | cons y m => rw [h] at ih; simp at ih ⊢; omega

/-- the two bases of the texts: words of 64 bits, halves of 32, digits of 16 -/
def W : Nat := 18446744073709551616
def H : Nat := 4294967296
def D : Nat := 65536
theorem W2 : 2 ≤ W := by decide
theorem H2 : 2 ≤ H := by decide
theorem D2 : 2 ≤ D := by decide

end Go.Proofs.YtjfehknilofdjaaGreat.Big
/- Sums of parts (a number, a term), as layer 6 makes them: put one by one at their places, or by term and in order; what they are worth. Nothing of the program. -/
namespace Go.Proofs.YtjfehknilofdjaaGreat

/-- how often a term stands in parts -/
def lnCf : List (Int × Int) → Int → Int
  | [], _ => 0
  | p :: ps, t => (if p.2 = t then p.1 else 0) + lnCf ps t
/-- what parts are worth -/
def lnVal (v : Int → Int) : List (Int × Int) → Int
  | [] => 0
  | p :: ps => p.1 * v p.2 + lnVal v ps
/-- a part, put at its place -/
def lnPut : List (Int × Int) → Int × Int → List (Int × Int)
  | [], p => [p]
  | x :: l, p => if p.2 < x.2 then p :: x :: l else if p.2 = x.2 then (x.1 + p.1, x.2) :: l else x :: lnPut l p
def lnUp (l : List (Int × Int)) : Prop := l.Pairwise (fun a b => a.2 < b.2)
def lnClean (l : List (Int × Int)) : List (Int × Int) := l.filter (fun p => p.1 != 0)
/-- what the document asks of a sum's parts -/
def lnIs (l : List (Int × Int)) : Prop := lnUp l ∧ ∀ p ∈ l, p.1 ≠ 0
/-- the document's sum of parts -/
def lnSum (ps : List (Int × Int)) : List (Int × Int) := lnClean (ps.foldl lnPut [])

theorem lnCf_append (l m : List (Int × Int)) (t : Int) : lnCf (l ++ m) t = lnCf l t + lnCf m t := by
  induction l with
  | nil => simp [lnCf]
  | cons x l ih => simp only [List.cons_append, lnCf, ih]; omega
theorem lnPut_cf (t : Int) (p : Int × Int) : ∀ l, lnCf (lnPut l p) t = lnCf l t + (if p.2 = t then p.1 else 0)
  | [] => by simp [lnPut, lnCf]
  | x :: l => by
    unfold lnPut
    by_cases h : p.2 < x.2
    · rw [if_pos h]; simp only [lnCf]; omega
    · rw [if_neg h]
      by_cases e : p.2 = x.2
      · rw [if_pos e]
        simp only [lnCf, e]
        by_cases h2 : x.2 = t
        · simp only [if_pos h2]; omega
        · simp only [if_neg h2]; omega
      · rw [if_neg e]
        simp only [lnCf, lnPut_cf t p l]
        omega
theorem lnPut_mem (t : Int) (p : Int × Int) : ∀ l, (∃ q ∈ lnPut l p, q.2 = t) ↔ p.2 = t ∨ ∃ q ∈ l, q.2 = t
  | [] => by simp [lnPut]
  | x :: l => by
    unfold lnPut
    by_cases h : p.2 < x.2
    · rw [if_pos h]; simp
    · rw [if_neg h]
      by_cases e : p.2 = x.2
      · rw [if_pos e]
        simp only [List.mem_cons, exists_eq_or_imp, e]
        constructor
        · rintro (h | h)
          · exact .inl h
          · exact .inr (.inr h)
        · rintro (h | h | h)
          · exact .inl h
          · exact .inl h
          · exact .inr h
      · rw [if_neg e]
        simp only [List.mem_cons, exists_eq_or_imp, lnPut_mem t p l]
        constructor
        · rintro (h | h | h)
          · exact .inr (.inl h)
          · exact .inl h
          · exact .inr (.inr h)
        · rintro (h | h | h)
          · exact .inr (.inl h)
          · exact .inl h
          · exact .inr (.inr h)
theorem lnPut_up (p : Int × Int) : ∀ l, lnUp l → lnUp (lnPut l p)
  | [], _ => by simp [lnPut, lnUp]
  | x :: l, hu => by
    obtain ⟨h1, h2⟩ := List.pairwise_cons.1 hu
    unfold lnPut
    by_cases h : p.2 < x.2
    · rw [if_pos h]
      refine List.pairwise_cons.2 ⟨fun q hq => ?_, hu⟩
      rcases List.mem_cons.1 hq with rfl | hq
      · exact h
      · exact Int.lt_trans h (h1 q hq)
    · rw [if_neg h]
      by_cases e : p.2 = x.2
      · rw [if_pos e]
        exact List.pairwise_cons.2 ⟨fun q hq => h1 q hq, h2⟩
      · rw [if_neg e]
        refine List.pairwise_cons.2 ⟨fun q hq => ?_, lnPut_up p l h2⟩
        rcases (lnPut_mem q.2 p l).1 ⟨q, hq, rfl⟩ with h3 | ⟨r, hr, h3⟩
        · omega
        · have := h1 r hr; omega
theorem lnAll_cf (t : Int) : ∀ (ps l : List (Int × Int)), lnCf (ps.foldl lnPut l) t = lnCf l t + lnCf ps t
  | [], l => by simp [lnCf]
  | p :: ps, l => by
    rw [List.foldl_cons, lnAll_cf t ps, lnPut_cf]
    simp only [lnCf]
    omega
theorem lnAll_up : ∀ (ps l : List (Int × Int)), lnUp l → lnUp (ps.foldl lnPut l)
  | [], _, h => h
  | p :: ps, l, h => lnAll_up ps _ (lnPut_up p l h)
theorem lnClean_cf (t : Int) : ∀ l, lnCf (lnClean l) t = lnCf l t
  | [] => rfl
  | x :: l => by
    have ih := lnClean_cf t l
    unfold lnClean at ih ⊢
    by_cases h : x.1 = 0
    · rw [List.filter_cons_of_neg (by simp [h]), ih]
      simp [lnCf, h]
    · rw [List.filter_cons_of_pos (by simp [h])]
      simp only [lnCf, ih]
theorem lnSum_is (ps : List (Int × Int)) : lnIs (lnSum ps) :=
  ⟨List.Pairwise.filter _ (lnAll_up ps [] List.Pairwise.nil), fun p hp => by
    have := (List.mem_filter.1 hp).2
    simpa using this⟩
theorem lnSum_cf (ps : List (Int × Int)) (t : Int) : lnCf (lnSum ps) t = lnCf ps t := by
  unfold lnSum
  rw [lnClean_cf, lnAll_cf]
  simp [lnCf]
/-! ### one sum, one list -/
theorem lnCf_none : ∀ {l : List (Int × Int)} {t : Int}, (∀ p ∈ l, p.2 ≠ t) → lnCf l t = 0
  | [], _, _ => rfl
  | x :: l, t, h => by
    simp only [lnCf]
    rw [if_neg (h x (by simp)), lnCf_none (fun p hp => h p (by simp [hp]))]
    rfl
theorem lnCf_head {x : Int × Int} {l : List (Int × Int)} (h : lnUp (x :: l)) : lnCf (x :: l) x.2 = x.1 := by
  obtain ⟨h1, -⟩ := List.pairwise_cons.1 h
  simp only [lnCf, if_pos]
  rw [lnCf_none (fun p hp => by have := h1 p hp; omega)]
  omega
theorem lnCf_low {x : Int × Int} {l : List (Int × Int)} (h : lnUp (x :: l)) {t : Int} (ht : t < x.2) : lnCf (x :: l) t = 0 :=
  lnCf_none (fun p hp => by
    rcases List.mem_cons.1 hp with rfl | hp
    · omega
    · have := (List.pairwise_cons.1 h).1 p hp; omega)
theorem lnIs.tail {x : Int × Int} {l : List (Int × Int)} (h : lnIs (x :: l)) : lnIs l := ⟨(List.pairwise_cons.1 h.1).2, fun p hp => h.2 p (by simp [hp])⟩
theorem ln_same : ∀ {l m : List (Int × Int)}, lnIs l → lnIs m → (∀ t, lnCf l t = lnCf m t) → l = m
  | [], [], _, _, _ => rfl
  | [], y :: m, _, hm, h => by
    have := h y.2
    rw [lnCf_head hm.1] at this
    exact absurd this.symm (hm.2 y (by simp))
  | x :: l, [], hl, _, h => by
    have := h x.2
    rw [lnCf_head hl.1] at this
    exact absurd this (hl.2 x (by simp))
  | x :: l, y :: m, hl, hm, h => by
    have hx := hl.2 x (by simp)
    have hy := hm.2 y (by simp)
    have e2 : x.2 = y.2 := by
      rcases Int.lt_trichotomy x.2 y.2 with h1 | h1 | h1
      · have := h x.2
        rw [lnCf_head hl.1, lnCf_low hm.1 h1] at this
        exact absurd this hx
      · exact h1
      · have := h y.2
        rw [lnCf_head hm.1, lnCf_low hl.1 h1] at this
        exact absurd this.symm hy
    have e1 : x.1 = y.1 := by
      have := h x.2
      rw [lnCf_head hl.1, e2, lnCf_head hm.1] at this
      exact this
    obtain rfl : x = y := Prod.ext e1 e2
    rw [ln_same hl.tail hm.tail (fun t => by
      have := h t
      simp only [lnCf] at this
      omega)]
/-! ### the program's sum: the terms that stand in it, each once and in order -/
def lnOf (ks : List Int) (f : Int → Int) : List (Int × Int) := (ks.filter (fun t => f t != 0)).map (fun t => (f t, t))
theorem lnOf_cf (f : Int → Int) (t : Int) : ∀ (ks : List Int), ks.Pairwise (· < ·) → lnCf (lnOf ks f) t = if t ∈ ks then f t else 0
  | [], _ => by simp [lnOf, lnCf]
  | k :: ks, h => by
    obtain ⟨h1, h2⟩ := List.pairwise_cons.1 h
    have ih := lnOf_cf f t ks h2
    have hk : k ∉ ks := fun hk => by have := h1 k hk; omega
    unfold lnOf at ih ⊢
    by_cases hf : f k = 0
    · rw [List.filter_cons_of_neg (by simp [hf]), ih]
      by_cases e : t = k
      · subst e; simp [hk, hf]
      · simp [e]
    · rw [List.filter_cons_of_pos (by simp [hf]), List.map_cons]
      simp only [lnCf, ih]
      by_cases e : t = k
      · subst e; simp [hk]
      · have e' : ¬ k = t := fun h => e h.symm
        simp [e, e']
theorem lnOf_is (f : Int → Int) (ks : List Int) (h : ks.Pairwise (· < ·)) : lnIs (lnOf ks f) := by
  constructor
  · exact List.pairwise_map.2 (List.Pairwise.filter _ h)
  · intro p hp
    obtain ⟨t, ht, rfl⟩ := List.mem_map.1 hp
    simpa using (List.mem_filter.1 ht).2
/-- both are one -/
theorem lnOf_sum (ks : List Int) (h : ks.Pairwise (· < ·)) (ps : List (Int × Int)) (hk : ∀ p ∈ ps, p.2 ∈ ks) : lnOf ks (lnCf ps) = lnSum ps :=
  ln_same (lnOf_is _ ks h) (lnSum_is ps) (fun t => by
    rw [lnOf_cf _ t ks h, lnSum_cf]
    by_cases e : t ∈ ks
    · rw [if_pos e]
    · rw [if_neg e, lnCf_none (fun p hp e' => e (by rw [← e']; exact hk p hp))])
/-! ### so many times -/
def lnTimes (k : Int) (ps : List (Int × Int)) : List (Int × Int) := ps.map (fun p => (p.1 * k, p.2))
theorem lnSum_self {ps : List (Int × Int)} (h : lnIs ps) : lnSum ps = ps := ln_same (lnSum_is _) h (fun t => by rw [lnSum_cf])
def lnOver (g : Int) (ps : List (Int × Int)) : List (Int × Int) := ps.map (fun p => (p.1 / g, p.2))
theorem lnOver_is {g : Int} {ps : List (Int × Int)} (hd : ∀ p ∈ ps, g ∣ p.1) (h : lnIs ps) : lnIs (lnOver g ps) := by
  refine ⟨List.pairwise_map.2 h.1, fun p hp => ?_⟩
  obtain ⟨q, hq, rfl⟩ := List.mem_map.1 hp
  intro e
  have e : q.1 / g = 0 := e
  have := Int.ediv_mul_cancel (hd q hq)
  rw [e, Int.zero_mul] at this
  exact h.2 q hq this.symm
end Go.Proofs.YtjfehknilofdjaaGreat
/- How a slice of unsigned or signed numbers reads in memory: At w k v l says that the value v is a slice whose elements, of integer kind k, are the numbers l. -/
namespace Go.Proofs.YtjfehknilofdjaaGreat
open Go.RowKit

/-- a fact that the walk does not take for a rule -/
theorem hid {p : Prop} (h : p) : Hid p := h

/-- the slice v holds the numbers l -/
def At (w : World) (k : IntKind) (v : Value) (l : List Nat) : Prop :=
  ∃ p cap, v = .slice p l.length cap ∧ l.length ≤ cap ∧ cap ≤ maxLen ∧ (p = none → cap = 0) ∧
    (0 < l.length → ∃ b off, p = some ⟨b, off, none⟩ ∧ b < w.heap.size ∧ ∀ i (h : i < l.length), w.cell? ⟨b, off + i, none⟩ = some (.int k (l[i]'h : Nat)))

theorem At.nil (w : World) (k : IntKind) : At w k (.slice none 0 0) [] := ⟨none, 0, rfl, by simp, by simp [maxLen], fun _ => rfl, fun h => absurd h (by simp)⟩
theorem At.below {w w' : World} {k : IntKind} {v : Value} {l : List Nat} (h : At w k v l) (hb : Below w.heap.size w w') : At w' k v l := by
  obtain ⟨p, cap, hv, h1, h2, h3, h4⟩ := h
  refine ⟨p, cap, hv, h1, h2, h3, fun hp => ?_⟩
  obtain ⟨b, off, h5, h6, h7⟩ := h4 hp
  exact ⟨b, off, h5, Nat.lt_of_lt_of_le h6 hb.size, fun i hi => (hb.cell (p := ⟨b, off + i, none⟩) h6).trans (h7 i hi)⟩
/-- a cut at the end -/
theorem At.take {w : World} {k : IntKind} {p : Option Addr} {n cap : Nat} {l : List Nat} (h : At w k (.slice p n cap) l) (m : Nat) (hm : m ≤ l.length) : At w k (.slice p m cap) (l.take m) := by
  obtain ⟨p', cap', hv, h1, h2, h3, h4⟩ := h
  cases hv
  refine ⟨p, cap, by simp [Nat.min_eq_left hm], by simp; omega, h2, h3, fun hp => ?_⟩
  rw [List.length_take, Nat.min_eq_left hm] at hp
  obtain ⟨b, off, h5, h6, h7⟩ := h4 (by omega)
  exact ⟨b, off, h5, h6, fun i hi => by rw [h7 i (by simp at hi; omega)]; simp⟩

/-- what a call answers: a slice of numbers l; memory that was there stays -/
def RAt (k : IntKind) (l : List Nat) (w : World) (e : Ending) (w' : World) : Prop := ∃ v', e = .returned v' ∧ At w' k v' l ∧ Below w.heap.size w w'
/-- likewise, nothing having turned -/
def RSame (k : IntKind) (l : List Nat) (w : World) (e : Ending) (w' : World) : Prop := ∃ v', e = .returned v' ∧ At w' k v' l ∧ w = w'
/-- a whole number by its sign and size -/
def sg (neg : Bool) (n : Nat) : Int := if neg then -(n : Int) else n
/-- a whole number as it is told -/
def IntAt (w : World) (v : Value) (z : Int) : Prop := ∃ s, v = .agg #[.bool (decide (z < 0)), s] ∧ At w .u64 s (Big.dig Big.W z.natAbs)
def RInt (z : Int) (w : World) (e : Ending) (w' : World) : Prop := ∃ v, e = .returned v ∧ IntAt w' v z ∧ Below w.heap.size w w'
/-- a whole number as it is handed in -/
def RawAt (w : World) (v : Value) (z : Int) : Prop := ∃ neg s l, v = .agg #[.bool neg, s] ∧ At w .u64 s l ∧ Big.Small Big.W l ∧ l.length ≤ 1099511627776 ∧ z = sg neg (Big.val Big.W l)
def RBool (b : Bool) (w : World) (e : Ending) (w' : World) : Prop := e = .returned (.bool b) ∧ Below w.heap.size w w'
def RNum (k : IntKind) (n : Int) (w : World) (e : Ending) (w' : World) : Prop := e = .returned (.int k n) ∧ Below w.heap.size w w'
theorem IntAt.below {w w' : World} {v : Value} {z : Int} (h : IntAt w v z) (hb : Below w.heap.size w w') : IntAt w' v z := by
  obtain ⟨s, hs, ha⟩ := h
  exact ⟨s, hs, ha.below hb⟩
theorem RawAt.below {w w' : World} {v : Value} {z : Int} (h : RawAt w v z) (hb : Below w.heap.size w w') : RawAt w' v z := by
  obtain ⟨neg, s, l, hs, ha, r⟩ := h
  exact ⟨neg, s, l, hs, ha.below hb, r⟩
theorem sg_natAbs (neg : Bool) (n : Nat) : (sg neg n).natAbs = n := by unfold sg; cases neg <;> simp
theorem sg_neg (neg : Bool) (n : Nat) (h : n ≠ 0) : decide (sg neg n < 0) = neg := by unfold sg; cases neg <;> simp <;> omega
theorem sg_zero (neg : Bool) : sg neg 0 = 0 := by unfold sg; cases neg <;> simp
theorem IntAt.zero (w : World) : IntAt w (.agg #[.bool false, .slice none 0 0]) 0 := ⟨_, by simp, At.nil w .u64⟩
theorem IntAt.mk {w : World} {neg : Bool} {s : Value} {n : Nat} (h0 : n ≠ 0) (h : At w .u64 s (Big.dig Big.W n)) : IntAt w (.agg #[.bool neg, s]) (sg neg n) :=
  ⟨s, by rw [sg_neg neg n h0], by rw [sg_natAbs]; exact h⟩
/-- a fresh cell of its own -/
theorem At.one (w : World) (k : IntKind) (x : Nat) (t : TypeId) : At (w.alloc (.cells #[.int k x] t)) k (.slice (some ⟨w.heap.size, 0, none⟩) 1 1) [x] :=
  ⟨_, 1, rfl, by simp, by simp [maxLen], fun h => (by cases h), fun _ => ⟨_, _, rfl, by simp, fun i hi => by
    obtain rfl : i = 0 := by simp at hi; omega
    simp [go_sem]⟩⟩
theorem below1 (w : World) (o : Obj) : Below w.heap.size w (w.alloc o) := (Below.refl _ _).alloc (Nat.le_refl _) o
def lenOf : Value → Nat | .slice _ n _ => n | _ => 0

theorem quiet_add_same {P : Program} {f : FuncId} {args : Array Value} {w : World} {a n : Nat} {v : Value}
    (h : Calls P f args (w.drewN (a + n)) fun e w' => e = .returned v ∧ w' = w.drewN (a + n)) :
    Calls P f args (w.drewN (a + n)) fun e w'' => e = .returned v ∧ ∃ m, w'' = w.drewN (a + m) :=
  h.mono fun _ _ ⟨he, hm⟩ => ⟨he, n, hm⟩
theorem At.drew {w : World} {k : IntKind} {v : Value} {l : List Nat} (h : At w k v l) : At w.drew k v l := h
theorem At.alloc {w : World} {k : IntKind} {v : Value} {l : List Nat} (h : At w k v l) (o : Obj) : At (w.alloc o) k v l := h.below (below1 w o)
/-- a slice cut behind its first m elements -/
def cutTo (v : Value) (m : Nat) : Value := match v with | .slice p _ c => .slice p m c | v => v
theorem At.cut {w : World} {k : IntKind} {v : Value} {l : List Nat} (h : At w k v l) (m : Nat) (hm : m ≤ l.length) : At w k (cutTo v m) (l.take m) := by
  have h' := h
  obtain ⟨p, cap, rfl, r⟩ := h'
  exact h.take m hm
theorem At.drewN {w : World} {k : IntKind} {v : Value} {l : List Nat} (h : At w k v l) (n : Nat) : At (w.drewN n) k v l := h

end Go.Proofs.YtjfehknilofdjaaGreat
/- whole.trim: what is left is the digits without the noughts at the end. -/
namespace Go.Proofs.YtjfehknilofdjaaGreat
open Go.RowKit Big

set_option maxHeartbeats 400000 in
theorem trim_val (v : Value) (l : List Nat) (w : World) (h : At w .u64 v l) :
    Calls Tryz.prog 44 #[v] w (fun e w' => e = .returned (cutTo v (strip l).length) ∧ w' = w) := by
  obtain ⟨p, cap, rfl, h1, h2, h3, h4⟩ := h
  unfold maxLen at h2
  go_enter Tryz.func44, Tryz.ntmps44
  go_wp2
  go_loop [0] (fun s => ∃ k : Nat, k ≤ l.length ∧ s = .slice p k cap ∧ strip (l.take k) = strip l) (fun s => lenOf s)
  case atStart => exact ⟨l.length, Nat.le_refl _, rfl, by rw [List.take_length]⟩
  case round =>
    obtain ⟨k, hk, rfl, hs⟩ := hrel
    have Hs := hid hs; clear hs
    by_cases hk0 : 0 < k
    · obtain ⟨b, off, rfl, hb, hc⟩ := h4 (by omega)
      have hck : w.cell? ⟨b, off + (k - 1), none⟩ = some (.int .u64 (l[k-1]'(by omega) : Nat)) := hc (k - 1) (by omega)
      clear hc h4
      go_wp2
      · go_round
        case rel =>
          have hz : ((l[k-1]'(by omega) : Nat) == 0) = true := by simpa using ‹((l[k-1]'(by omega) : Nat) == (0 : Int)) = true›
          refine ⟨k - 1, by omega, rfl, ?_⟩
          rw [← Hs.out, ← strip_take (k := k - 1) (by omega) (by simpa using hz), Nat.sub_add_cancel hk0]
        case measure => simp [lenOf]; omega
      · have hz : ¬ (l[k-1]'(by omega) : Nat) = 0 := by
          have := ‹((l[k-1]'(by omega) : Nat) == (0 : Int)) = false›
          simpa using this
        have hs := strip_take_ne (l := l) (k := k - 1) (by omega) hz
        rw [Nat.sub_add_cancel hk0, Hs.out] at hs
        go_ret
        exact ⟨by rw [hs, List.length_take, Nat.min_eq_left hk]; rfl, rfl⟩
    · obtain rfl : k = 0 := by omega
      have hs : Hid (strip l = []) := by rw [← Hs.out]; rfl
      go_wp2
      go_ret
      exact ⟨by rw [hs.out]; rfl, rfl⟩
theorem strip_is_take (l : List Nat) : strip l = l.take (strip l).length := by
  induction l with
  | nil => rfl
  | cons x l ih =>
    simp only [strip]
    cases h : strip l with
    | nil => by_cases hx : x = 0 <;> simp [hx]
    | cons y m =>
      rw [h] at ih
      simp only [List.length_cons] at ih ⊢
      rw [List.take_succ_cons, ← ih]
theorem At.strip {w : World} {k : IntKind} {v : Value} {l : List Nat} (h : At w k v l) : At w k (cutTo v (strip l).length) (strip l) := by
  have := h.cut (Big.strip l).length (strip_length l)
  rwa [← strip_is_take] at this
theorem trim_any (v : Value) (l : List Nat) (w : World) (h : At w .u64 v l) : Calls Tryz.prog 44 #[v] w (RSame .u64 (strip l) w) :=
  (trim_val v l w h).mono fun _ _ ⟨he, hw⟩ => ⟨_, he, by subst hw; exact h.strip, hw.symm⟩
end Go.Proofs.YtjfehknilofdjaaGreat
/- whole's small functions: told, ownWord, word, own. -/
namespace Go.Proofs.YtjfehknilofdjaaGreat
open Go.RowKit Big

set_option maxHeartbeats 400000 in
theorem told_any (neg : Bool) (s : Value) (n : Nat) (w : World) (h : At w .u64 s (dig W n)) :
    Calls Tryz.prog 49 #[.bool neg, s] w (RInt (sg neg n) w) := by
  have hat := hid h
  obtain ⟨p, cap, rfl, h1, h2, h3, h4⟩ := h
  unfold maxLen at h2
  clear h4
  by_cases h0 : (dig W n).length = 0
  · have hn : n = 0 := (dig_eq_nil W2).1 (List.eq_nil_of_length_eq_zero h0)
    have Hn := hid hn; clear hn
    go_enter Tryz.func49, Tryz.ntmps49
    go_wp2
    exact bodyPost_ret (v := .agg #[.bool false, .slice none 0 0]) (by simp [results, Tryz.results49, go_sem]) rfl ⟨_, rfl, by rw [Hn.out, sg_zero]; exact IntAt.zero _, below1 _ _⟩
  · have hn : n ≠ 0 := fun e => h0 (by rw [e]; rfl)
    have Hn := hid hn; clear hn
    go_enter Tryz.func49, Tryz.ntmps49
    go_wp2
    exact bodyPost_ret (v := .agg #[.bool neg, .slice p (dig W n).length cap]) (by simp [results, Tryz.results49, go_sem]) rfl ⟨_, rfl, IntAt.mk Hn.out (hat.out.below (below1 _ _)), below1 _ _⟩

set_option maxHeartbeats 400000 in
theorem ownWord_any (x : Nat) (w : World) (hx : x < W) :
    Calls Tryz.prog 61 #[.int .u64 x] w (RAt .u64 (dig W x) w) := by
  by_cases h0 : x = 0
  · subst h0
    go_enter Tryz.func61, Tryz.ntmps61
    go_wp2
    go_ret
    exact ⟨_, rfl, At.nil _ _, Below.refl _ _⟩
  · have Hd := hid (dig_one W2 (by omega) hx)
    go_enter Tryz.func61, Tryz.ntmps61
    go_wp2
    go_ret
    exact ⟨_, rfl, by rw [Hd.out]; exact At.one _ _ _ _, below1 _ _⟩

set_option maxHeartbeats 400000 in
theorem word_any (v : Value) (l : List Nat) (w : World) (h : At w .u64 v l) :
    Calls Tryz.prog 72 #[v] w fun e w' => e = .returned (.int .u64 (l.headD 0 : Nat)) ∧ w = w' := by
  obtain ⟨p, cap, rfl, h1, h2, h3, h4⟩ := h
  unfold maxLen at h2
  cases l with
  | nil =>
    go_enter Tryz.func72, Tryz.ntmps72
    go_wp2
    go_ret
    exact ⟨rfl, rfl⟩
  | cons x l =>
    obtain ⟨b, off, rfl, hb, hc⟩ := h4 (by simp)
    have hck : w.cell? ⟨b, off, none⟩ = some (.int .u64 x) := hc 0 (by simp)
    clear hc h4
    have hl : (l.length + 1 == 0) = false := by simp
    have hl2 : 0 < l.length + 1 := by omega
    rw [List.length_cons] at *
    go_enter Tryz.func72, Tryz.ntmps72
    go_wp2
    go_ret
    exact ⟨rfl, rfl⟩

end Go.Proofs.YtjfehknilofdjaaGreat
/- Slices of numbers that a call has made itself: what append and make do with them. -/
namespace Go.Proofs.YtjfehknilofdjaaGreat
open Go.RowKit Big

/-- t is the type of slices of e, the integers of kind k, of so many bytes -/
structure Elem (P : Program) (t e : TypeId) (k : IntKind) (size : Nat) : Prop where
  und : P.underlying t = some (.slice e)
  row : ∃ i, P.info? e = some i ∧ i.zero = some (.int k 0) ∧ i.size = 1 ∧ i.bytes = size
def ints (k : IntKind) (l : List Nat) : List Value := l.map fun x => Value.int k (x : Nat)
/-- v holds the numbers l in a row of the call's own, from block base on -/
def Own (w : World) (base : Nat) (e : TypeId) (k : IntKind) (v : Value) (l : List Nat) : Prop := w.ownsRow base e 1 v l.length (ints k l)

theorem ints_length (k : IntKind) (l : List Nat) : (ints k l).length = l.length := by simp [ints]
theorem ints_append (k : IntKind) (l m : List Nat) : ints k (l ++ m) = ints k l ++ ints k m := by simp [ints]
theorem Own.nil (w : World) (base : Nat) (e : TypeId) (k : IntKind) : Own w base e k (.slice none 0 0) [] := World.ownsRow_nil w base e 1
theorem Own.at {w : World} {base : Nat} {e : TypeId} {k : IntKind} {v : Value} {l : List Nat} (h : Own w base e k v l) : At w k v l := by
  have h' := h
  unfold Own at h'
  rcases h'.2 with ⟨rfl, h0⟩ | ⟨g, cap, cur, rfl, _, hg, hn, hm, _, _⟩
  · obtain rfl := List.eq_nil_of_length_eq_zero h0
    exact At.nil w k
  · refine ⟨_, cap, rfl, hn, hm, fun h => (by cases h), fun _ => ⟨g, 0, rfl, (Array.getElem?_eq_some_iff.1 hg).1, fun i hi => ?_⟩⟩
    have := World.ownsRow.cellAt h' i (by omega)
    rw [Nat.zero_add, this]
    simp [ints, hi]
theorem Own.kept {w w' : World} {base : Nat} {e : TypeId} {k : IntKind} {v : Value} {l : List Nat} (h : Own w base e k v l) (hb : Below w.heap.size w w') : Own w' base e k v l := by
  refine ⟨h.1, ?_⟩
  rcases h.2 with hn | ⟨g, cap, cur, rfl, h1, hg, r⟩
  · exact Or.inl hn
  · exact Or.inr ⟨g, cap, cur, rfl, h1, by rw [hb.block g (Array.getElem?_eq_some_iff.1 hg).1]; exact hg, r⟩
theorem Own.alloc {w : World} {base : Nat} {e : TypeId} {k : IntKind} {v : Value} {l : List Nat} (h : Own w base e k v l) (o : Obj) : Own (w.alloc o) base e k v l := h.kept (below1 w o)
theorem Own.mono {w : World} {base base' : Nat} {e : TypeId} {k : IntKind} {v : Value} {l : List Nat} (h : Own w base e k v l) (hb : base' ≤ base) : Own w base' e k v l := by
  refine ⟨h.1, ?_⟩
  rcases h.2 with hn | ⟨g, cap, cur, rfl, h1, r⟩
  · exact Or.inl hn
  · exact Or.inr ⟨g, cap, cur, rfl, Nat.le_trans hb h1, r⟩
/-- a row that is written is one of the call's own -/
theorem Own.row {w : World} {base : Nat} {e : TypeId} {k : IntKind} {v : Value} {l : List Nat} (h : Own w base e k v l) : ∀ g, v.ownBlock = some g → base ≤ g := fun g hg => (World.ownsRow.lt h g hg).1
/-- a cut at the end -/
theorem Own.take {w : World} {base : Nat} {e : TypeId} {k : IntKind} {p : Option Addr} {n cap : Nat} {l : List Nat} (h : Own w base e k (.slice p n cap) l) (m : Nat) (hm : m ≤ l.length) : Own w base e k (.slice p m cap) (l.take m) := by
  have hl : (l.take m).length = m := by simp [Nat.min_eq_left hm]
  unfold Own at h ⊢
  rw [hl]
  refine ⟨by simp [ints_length, hl], ?_⟩
  rcases h.2 with ⟨h1, h2⟩ | ⟨g, c, cur, h1, h2, h3, h4, h5, h6, h7⟩
  · cases h1; exact Or.inl ⟨by rw [show m = 0 by omega], by omega⟩
  · cases h1
    refine Or.inr ⟨g, cap, cur, rfl, h2, h3, by omega, h5, h6, ?_⟩
    have : (ints k l).take m = ints k (l.take m) := by simp [ints, List.map_take]
    rw [← this, ← h7, List.take_take]
    congr 1; omega

/-- what a call answers: a slice of numbers l in memory of its own -/
def ROwn (e : TypeId) (k : IntKind) (l : List Nat) (w : World) (en : Ending) (w' : World) : Prop := ∃ v', en = .returned v' ∧ Own w' w.heap.size e k v' l ∧ Below w.heap.size w w'
theorem elemNat : Elem Tryz.prog 24 54 .u64 8 := ⟨Tryz.underlying24, info_parts (by kernel_rfl)⟩
theorem elemInts : Elem Tryz.prog 60 3 .i64 8 := ⟨Tryz.underlying60, info_parts (by kernel_rfl)⟩
theorem elemHalves : Elem Tryz.prog 92 109 .u32 4 := ⟨Tryz.underlying92, info_parts (by kernel_rfl)⟩

section
variable {P : Program} {w : World} {ops : Array Oper} {rest : List Oper} {o : Oper} {a : Act} {Q : Exit → Act → World → Prop}

/-- 'append(v, x...)': v the call's own, x whatever slice of numbers -/
theorem wpList_append_at (hgd : o.guard = none) (s x : Operand) (t : TypeId)
    (ho : o.op = .call { callee := .builtin .append, args := #[s, x], argTypes := #[t, t] })
    {e : TypeId} {k : IntKind} {size : Nat} (E : Elem P t e k size) (base : Nat) (v : Value) (l : List Nat) (hs : a.eval s = v) (hown : Own w base e k v l)
    (vx : Value) (m : List Nat) (hx : a.eval x = vx) (hat : At w k vx m)
    (hlen : l.length + m.length ≤ maxLen) (hbytes : (l.length + m.length) * size ≤ 140737488355328) (hbase : base ≤ w.heap.size)
    (h : ∀ v' w', Own w' base e k v' (l ++ m) → Below base w w' → w.heap.size ≤ w'.heap.size → wpList P ops Q rest (a.put o.dst v') w') : wpList P ops Q (o :: rest) a w := by
  obtain ⟨i, hi, hz, hsz, hby⟩ := E.row
  obtain ⟨p, cap, rfl, h1, h2, h3, h4⟩ := hat
  cases p with
  | none =>
    obtain rfl := h3 rfl
    obtain rfl : m = [] := List.eq_nil_of_length_eq_zero (by omega)
    exact wpList_append_own_none hgd s x t ho base e i 1 E.und hi v l.length (ints k l) hs hown hx (h _ _ (by rw [List.append_nil]; exact hown) (Below.refl _ _) (Nat.le_refl _))
  | some ad =>
    refine wpList_append_own w hgd s x t ho base e i (.int k 0) 1 size E.und hi hz hsz hby rfl (by decide) v l.length (ints k l) hs hown ad m.length cap (ints k m) hx (by simp [ints_length]) ?_ ?_ hlen hbytes hbase ?_
    · intro j u hj
      by_cases hjm : j < m.length
      · obtain ⟨b, off, he, hb, hc⟩ := h4 (by omega)
        cases he
        rw [Go.WideShapes.add_plain, hc j hjm]
        simpa [ints, hjm] using hj
      · rw [List.getElem?_eq_none (by rw [ints_length]; omega)] at hj; cases hj
    · intro u hu
      obtain ⟨n, _, rfl⟩ := List.mem_map.1 hu
      rfl
    · intro v' w' h5 h6 _
      refine h v' w' ?_ ((Below.refl _ _).grown h6 hbase hown.row) h6.size
      unfold Own
      rw [List.length_append, ints_append]; exact h5

/-- 'make([]T, 0, n)' -/
theorem wpList_make_at (hg : o.guard = none) (l c : Operand) (t : TypeId) (hop : o.op = Op.makeSlice t l c)
    {e : TypeId} {k : IntKind} {size : Nat} (E : Elem P t e k size) (base : Nat)
    (kl kc : IntKind) (C : Int) (n : Nat) (hl : a.eval l = .int kl 0) (hc : a.eval c = .int kc C) (hC : C = (n : Int)) (b2 : size * n ≤ 281474976710656) (b3 : n ≤ maxLen) (b4 : base ≤ w.heap.size)
    (hK : ∀ v w', Own w' base e k v [] → Below base w w' → w.heap.size ≤ w'.heap.size → v = (.slice (some ⟨w.heap.size, 0, none⟩) 0 n) → wpList P ops Q rest (a.put o.dst v) w') :
    wpList P ops Q (o :: rest) a w := by
  obtain ⟨i, hi, hz, hsz, hby⟩ := E.row
  subst hby
  exact wpList_make_own w hg l c t hop base e i (.int k 0) 1 E.und hi hz hsz kl kc C n hl hc hC b2 b3 b4 fun w' h1 h2 => hK _ w' h1 ((Below.refl _ _).grown h2 b4 (fun _ h => by cases h)) h2.size rfl

/-- 'make([]T, n)' -/
theorem wpList_full_at (hg : o.guard = none) (l c : Operand) (t : TypeId) (hop : o.op = Op.makeSlice t l c)
    {e : TypeId} {k : IntKind} {size : Nat} (E : Elem P t e k size) (base : Nat)
    (kl kc : IntKind) (L C : Int) (n : Nat) (hl : a.eval l = .int kl L) (hc : a.eval c = .int kc C) (hL : L = (n : Int)) (hC : C = (n : Int)) (b2 : size * n ≤ 281474976710656) (b3 : n ≤ maxLen) (b4 : base ≤ w.heap.size)
    (hK : ∀ v w', Own w' base e k v (List.replicate n 0) → Below base w w' → w.heap.size ≤ w'.heap.size → v = (.slice (some ⟨w.heap.size, 0, none⟩) n n) → wpList P ops Q rest (a.put o.dst v) w') :
    wpList P ops Q (o :: rest) a w := by
  obtain ⟨i, hi, hz, hsz, hby⟩ := E.row
  subst hby
  refine wpList_make_full w hg l c t hop base e i (.int k 0) 1 E.und hi hz hsz kl kc L C n hl hc hL hC b2 b3 b4 fun w' h1 h2 => hK _ w' ?_ ((Below.refl _ _).grown h2 b4 (fun _ h => by cases h)) h2.size rfl
  unfold Own
  rw [List.length_replicate]
  have e1 : (madeCells (Value.int k 0).cells (n * 1)).toList = ints k (List.replicate n 0) := by
    rw [Nat.mul_one]
    show (madeCells #[Value.int k 0] n).toList = _
    rw [toList_madeCells_one]
    simp [ints]
  rw [← e1]; exact h1
end

end Go.Proofs.YtjfehknilofdjaaGreat
/- whole.own, whole.plus: sums of words with carries. -/
namespace Go.Proofs.YtjfehknilofdjaaGreat
open Go.RowKit Big

set_option maxHeartbeats 400000 in
theorem own_any (v : Value) (l : List Nat) (w : World) (h : At w .u64 v l) (hl : l.length ≤ 1099511627776) :
    Calls Tryz.prog 50 #[v] w (ROwn 54 .u64 (strip l) w) := by
  have hs := strip_length l
  go_enter Tryz.func50, Tryz.ntmps50
  go_wp2_with (first
    | (go_at_call 44; refine (trim_any _ l _ h).mono ?_; rintro e w' ⟨v', rfl, hv', rfl⟩)
    | (at_builtin; refine wpList_append_at rfl _ _ 24 rfl elemNat w.heap.size _ [] rfl (Own.nil _ _ _ _) _ (strip l) rfl hv' (by simp [maxLen]; omega) (by simp; omega) (Nat.le_refl _) ?_; intro v2 w2 ho hb _))
  go_ret
  exact ⟨_, rfl, by simpa using ho, hb⟩

/-- math/bits.Add64, its sum and carry under names -/
theorem add64 (x y c : Nat) (hc : c ≤ 1) : ∃ s c', x + y + c = s + W * c' ∧ s < W ∧ (x < W → y < W → c' ≤ 1) ∧
    ∀ w, (callFunc 64 #[.int .u64 (x : Nat), .int .u64 (y : Nat), .int .u64 (c : Nat)]).run Tryz.prog w = .ok (.value (.tuple #[.int .u64 (s : Nat), .int .u64 (c' : Nat)])) w := by
  refine ⟨(x + y + c) % W, (x + y + c) / W, (Nat.mod_add_div _ _).symm, Nat.mod_lt _ (by decide), ?_, fun w => ?_⟩
  · intro h1 h2
    have : (x + y + c) / W < 2 := (Nat.div_lt_iff_lt_mul (by decide)).2 (by omega)
    omega
  · rw [run_callFunc_extern Tryz.func64 (by kernel_rfl) (by kernel_rfl) (by kernel_rfl) (e := add64Entry) (by kernel_rfl), run_add64 x y c (by omega) (by omega) (by omega) (by omega)]
    simp only [Result.andThen, W]
    congr 5 <;> omega
/-- math/bits.Sub64, likewise -/
theorem sub64 (x y b : Nat) (hx : x < W) (hy : y < W) (hb : b ≤ 1) : ∃ s b', x + W * b' = s + y + b ∧ s < W ∧ b' ≤ 1 ∧
    ∀ w, (callFunc 67 #[.int .u64 (x : Nat), .int .u64 (y : Nat), .int .u64 (b : Nat)]).run Tryz.prog w = .ok (.value (.tuple #[.int .u64 (s : Nat), .int .u64 (b' : Nat)])) w := by
  unfold W at *
  refine ⟨(x + 18446744073709551616 - y - b) % 18446744073709551616, if x < y + b then 1 else 0, ?_, Nat.mod_lt _ (by decide), ?_, fun w => ?_⟩
  · split <;> omega
  · split <;> omega
  · rw [run_callFunc_extern Tryz.func67 (by kernel_rfl) (by kernel_rfl) (by kernel_rfl) (e := sub64Entry) (by kernel_rfl), run_sub64 x y b hb]
    rfl

def RPlus (l0 l1 : List Nat) (w : World) (e : Ending) (w' : World) : Prop := ∃ l c, Small W l ∧ l.length = l0.length ∧ c ≤ 1 ∧ val W l + c * W ^ l0.length = val W l0 + val W l1 ∧
      ROwn 54 .u64 (if c = 0 then l else l ++ [c]) w e w'
theorem plus_step {l l0 l1 : List Nat} {k x y c s c2 : Nat} {hk : k < l0.length} (hl : l.length = k) (hx : x = l0[k]) (hy : y = l1[k]?.getD 0) (hs : x + y + c = s + W * c2)
    (hv : val W l + c * W ^ k = val W (l0.take k) + val W (l1.take k)) : val W (l ++ [s]) + c2 * W ^ (k + 1) = val W (l0.take (k + 1)) + val W (l1.take (k + 1)) := by
  rw [val_snoc, val_take_succ W l0 k hk, val_take_getD, hl, ← hx, ← hy, Nat.pow_succ]
  exact add_step hs hv

set_option maxRecDepth 100000 in
set_option maxHeartbeats 800000 in
theorem plus_at (sw : Bool) (v0 v1 : Value) (l0 l1 : List Nat) (w : World) (h0 : At w .u64 v0 l0) (h1 : At w .u64 v1 l1) (s0 : Small W l0) (s1 : Small W l1)
    (hl : if sw then l1.length < l0.length else l1.length ≤ l0.length) (hlen : l0.length ≤ 1099511627776) :
    Calls Tryz.prog 51 (if sw then #[v1, v0] else #[v0, v1]) w (RPlus l0 l1 w) := by
  obtain ⟨p0, c0, rfl, a1, a2, a3, a4⟩ := h0
  obtain ⟨p1, c1, rfl, b1, b2, b3, b4⟩ := h1
  cases sw
  all_goals
    first | simp only [if_true] at hl ⊢ | simp only [if_false, Bool.false_eq_true] at hl ⊢
    go_enter Tryz.func51, Tryz.ntmps51
    unfold maxLen at a2 b2
    go_wp2_with (first
      | (at_make; refine wpList_make_at rfl _ _ 24 rfl elemNat w.heap.size _ _ _ (l0.length + 1) rfl rfl (by simp) (by omega) (by simp [maxLen]; omega) (Nat.le_refl _) ?_; intro vo w1 ho hb1 hs1 hvo; clear hvo))
    go_loopw [5, 6, 23] (fun o c i wr => ∃ (k : Nat) (l : List Nat) (c' : Nat), k ≤ l0.length ∧ i = .int .i64 (k : Nat) ∧ c = .int .u64 (c' : Nat) ∧ c' ≤ 1 ∧ Own wr w.heap.size 54 .u64 o l ∧ l.length = k ∧ Small W l ∧
        Hid (val W l + c' * W ^ k = val W (l0.take k) + val W (l1.take k)) ∧ Below w.heap.size w wr) (fun _ _ i _ => l0.length - (intOf i).toNat)
    case atStart => exact ⟨0, [], 0, Nat.zero_le _, rfl, rfl, by omega, ho, rfl, small_nil _, by simp [Hid, val], hb1⟩
    case round =>
      obtain ⟨k, l, c', hk, rfl, rfl, hc', hown, hlk, hsl, hv, hbel⟩ := hrel
      have Hlk := hid hlk; clear hlk
      by_cases hkl : k < l0.length
      · obtain ⟨b, off, rfl, hbb, hcell⟩ := a4 (by omega)
        have e0 : wr.cell? ⟨b, off + k, none⟩ = some (.int .u64 (l0[k] : Nat)) := (hbel.cell (p := ⟨b, off + k, none⟩) hbb).trans (hcell k hkl)
        have x0 := small_get s0 k hkl
        obtain ⟨x, hx⟩ : ∃ x, x = l0[k] := ⟨_, rfl⟩
        rw [← hx] at e0 x0
        have Hx := hid hx; clear hx hcell a4
        by_cases hk1 : k < l1.length
        · obtain ⟨b', off', rfl, hbb', hcell'⟩ := b4 (by omega)
          have e1 : wr.cell? ⟨b', off' + k, none⟩ = some (.int .u64 (l1[k] : Nat)) := (hbel.cell (p := ⟨b', off' + k, none⟩) hbb').trans (hcell' k hk1)
          have y0 := small_get s1 k hk1
          obtain ⟨y, hy⟩ : ∃ y, y = l1[k] := ⟨_, rfl⟩
          rw [← hy] at e1 y0
          have Hy : Hid (y = l1[k]?.getD 0) := by unfold Hid; simpa [hk1] using hy
          clear hy hcell' b4
          obtain ⟨s, c2, hs, hsW, hc2, hadd⟩ := add64 x y c' hc'
          have hc2 := hc2 x0 y0
          have Hs := hid hs; clear hs
          go_wp2_with (first
            | (at_builtin; refine wpList_append_at rfl _ _ 24 rfl elemNat w.heap.size _ l rfl (hown.alloc _) _ [s] rfl (At.one _ _ _ _) (by rw [Hlk.out]; simp [maxLen]; omega) (by rw [Hlk.out]; simp; omega) (by have := hbel.size; simp; omega) ?_; intro v2 w2 ho2 hb2 hs2))
          go_roundw
          case rel => exact ⟨k + 1, l ++ [s], c2, by omega, by go_num, rfl, hc2, ho2, by simp [Hlk.out], small_snoc hsl hsW,
              plus_step Hlk.out Hx.out Hy.out Hs.out hv.out, (hbel.trans ((below1 _ _).mono hbel.size)).trans hb2⟩
          case measure => simp [intOf]; omega
        · obtain ⟨y, hy⟩ : ∃ y, y = 0 := ⟨_, rfl⟩
          have y0 : y < W := by rw [hy]; decide
          have Hy : Hid (y = l1[k]?.getD 0) := by unfold Hid; simpa [hk1] using hy
          obtain ⟨s, c2, hs, hsW, hc2, hadd⟩ := add64 x y c' hc'
          have hc2 := hc2 x0 y0
          have Hs := hid hs; clear hs
          rw [hy] at hadd; simp only [Int.natCast_zero] at hadd; clear hy
          go_wp2_with (first
            | (at_builtin; refine wpList_append_at rfl _ _ 24 rfl elemNat w.heap.size _ l rfl (hown.alloc _) _ [s] rfl (At.one _ _ _ _) (by rw [Hlk.out]; simp [maxLen]; omega) (by rw [Hlk.out]; simp; omega) (by have := hbel.size; simp; omega) ?_; intro v2 w2 ho2 hb2 hs2))
          go_roundw
          case rel => exact ⟨k + 1, l ++ [s], c2, by omega, by go_num, rfl, hc2, ho2, by simp [Hlk.out], small_snoc hsl hsW,
              plus_step Hlk.out Hx.out Hy.out Hs.out hv.out, (hbel.trans ((below1 _ _).mono hbel.size)).trans hb2⟩
          case measure => simp [intOf]; omega
      · obtain rfl : k = l0.length := by omega
        have hv' : val W l + c' * W ^ l0.length = val W l0 + val W l1 := by
          have := hv.out
          rwa [List.take_length, val_take_ge W l1 _ (by omega)] at this
        have Hv := hid hv'; clear hv hv' a4 b4
        by_cases hc0 : c' = 0
        · subst hc0
          go_wp2
          go_ret
          exact ⟨l, 0, hsl, Hlk.out, by omega, Hv.out, _, rfl, by simpa using hown, hbel⟩
        · obtain rfl : c' = 1 := by omega
          go_wp2_with (first
            | (at_builtin; refine wpList_append_at rfl _ _ 24 rfl elemNat w.heap.size _ l rfl (hown.alloc _) _ [1] rfl (At.one _ _ _ _) (by rw [Hlk.out]; simp [maxLen]; omega) (by rw [Hlk.out]; simp; omega) (by have := hbel.size; simp; omega) ?_; intro v2 w2 ho2 hb2 hs2))
          go_ret
          exact ⟨l, 1, hsl, Hlk.out, by omega, Hv.out, _, rfl, by simpa using ho2, (hbel.trans ((below1 _ _).mono hbel.size)).trans hb2⟩

/-- whole.plus of two numbers' digits: the sum's digits -/
theorem plus_any (va vb : Value) (n m : Nat) (w : World) (h0 : At w .u64 va (dig W n)) (h1 : At w .u64 vb (dig W m)) (hn : sz W n ≤ 1099511627776) (hm : sz W m ≤ 1099511627776) :
    Calls Tryz.prog 51 #[va, vb] w (ROwn 54 .u64 (dig W (n + m)) w) := by
  have key : ∀ l0 l1 : Nat, sz W l1 ≤ sz W l0 → ∀ e w', RPlus (dig W l0) (dig W l1) w e w' → ROwn 54 .u64 (dig W (l0 + l1)) w e w' := by
    rintro n m hnm e w' ⟨l, c, hs, hl, hc, hv, hr⟩
    rw [val_dig W2, val_dig W2] at hv
    have : (if c = 0 then l else l ++ [c]) = dig W (n + m) := by
      by_cases hc0 : c = 0
      · subst hc0
        rw [if_pos rfl]
        refine canon_val W2 hs (by omega) ?_
        by_cases h0 : n = 0
        · left; subst h0; exact List.eq_nil_of_length_eq_zero hl
        · right; rw [hl]; exact Nat.le_trans (pow_sz_le W2 (by omega)) (by omega)
      · obtain rfl : c = 1 := by omega
        rw [if_neg hc0]
        refine canon_val W2 (small_snoc hs (by decide)) (by rw [val_snoc, hl]; omega) (Or.inr ?_)
        simp only [List.length_append, List.length_singleton, Nat.add_sub_cancel, hl]
        omega
    rw [← this]; exact hr
  by_cases hlt : (dig W n).length < (dig W m).length
  · have := plus_at true vb va (dig W m) (dig W n) w h1 h0 (small_dig W2 _) (small_dig W2 _) (by simpa using hlt) hm
    refine this.mono fun e w' h => ?_
    rw [Nat.add_comm]
    exact key m n (Nat.le_of_lt hlt) e w' h
  · have := plus_at false va vb (dig W n) (dig W m) w h0 h1 (small_dig W2 _) (small_dig W2 _) (by simpa using hlt) hn
    exact this.mono fun e w' h => key n m (by unfold sz; omega) e w' h
end Go.Proofs.YtjfehknilofdjaaGreat
/- whole.minus: differences of words with borrows. -/
namespace Go.Proofs.YtjfehknilofdjaaGreat
open Go.RowKit Big

theorem minus_step {l l0 l1 : List Nat} {k x y c s c2 : Nat} {hk : k < l0.length} (hl : l.length = k) (hx : x = l0[k]) (hy : y = l1[k]?.getD 0) (hs : x + W * c2 = s + y + c)
    (hv : val W l + val W (l1.take k) = val W (l0.take k) + c * W ^ k) : val W (l ++ [s]) + val W (l1.take (k + 1)) = val W (l0.take (k + 1)) + c2 * W ^ (k + 1) := by
  rw [val_snoc, val_take_succ W l0 k hk, val_take_getD, hl, ← hx, ← hy, Nat.pow_succ]
  exact sub_step hs hv

set_option maxRecDepth 100000 in
set_option maxHeartbeats 800000 in
/-- whole.minus of two numbers' digits, the second no greater: the difference's digits -/
theorem minus_any (v0 v1 : Value) (n m : Nat) (w : World) (h0 : At w .u64 v0 (dig W n)) (h1 : At w .u64 v1 (dig W m)) (hmn : m ≤ n) (hlen : sz W n ≤ 1099511627776) :
    Calls Tryz.prog 53 #[v0, v1] w (RAt .u64 (dig W (n - m)) w) := by
  have s0 := small_dig W2 n
  have s1 := small_dig W2 m
  have hl : (dig W m).length ≤ (dig W n).length := sz_mono W2 hmn
  have hvv : val W (dig W m) ≤ val W (dig W n) ∧ val W (dig W n) - val W (dig W m) = n - m := by rw [val_dig W2, val_dig W2]; exact ⟨hmn, rfl⟩
  unfold sz at hlen
  have Hvv := hid hvv; clear hvv hmn
  obtain ⟨r, hr⟩ : ∃ r, r = dig W (n - m) := ⟨_, rfl⟩
  rw [← hr]
  have Hr := hid hr; clear hr
  generalize dig W n = l0 at *
  generalize dig W m = l1 at *
  obtain ⟨p0, c0, rfl, a1, a2, a3, a4⟩ := h0
  obtain ⟨p1, c1, rfl, b1, b2, b3, b4⟩ := h1
  unfold maxLen at a2 b2
  go_enter Tryz.func53, Tryz.ntmps53
  go_wp2_with (first
    | (at_make; refine wpList_make_at rfl _ _ 24 rfl elemNat w.heap.size _ _ _ l0.length rfl rfl (by simp) (by omega) (by simp [maxLen]; omega) (Nat.le_refl _) ?_; intro vo w1 ho hb1 hs1 hvo; clear hvo))
  go_loopw [5, 6, 15] (fun o c i wr => ∃ (k : Nat) (l : List Nat) (c' : Nat), k ≤ l0.length ∧ i = .int .i64 (k : Nat) ∧ c = .int .u64 (c' : Nat) ∧ c' ≤ 1 ∧ Own wr w.heap.size 54 .u64 o l ∧ l.length = k ∧ Small W l ∧
      Hid (val W l + val W (l1.take k) = val W (l0.take k) + c' * W ^ k) ∧ Below w.heap.size w wr) (fun _ _ i _ => l0.length - (intOf i).toNat)
  case atStart => exact ⟨0, [], 0, Nat.zero_le _, rfl, rfl, by omega, ho, rfl, small_nil _, by simp [Hid, val], hb1⟩
  case round =>
    obtain ⟨k, l, c', hk, rfl, rfl, hc', hown, hlk, hsl, hv, hbel⟩ := hrel
    have Hlk := hid hlk; clear hlk
    by_cases hkl : k < l0.length
    · obtain ⟨b, off, rfl, hbb, hcell⟩ := a4 (by omega)
      have e0 : wr.cell? ⟨b, off + k, none⟩ = some (.int .u64 (l0[k] : Nat)) := (hbel.cell (p := ⟨b, off + k, none⟩) hbb).trans (hcell k hkl)
      have x0 := small_get s0 k hkl
      obtain ⟨x, hx⟩ : ∃ x, x = l0[k] := ⟨_, rfl⟩
      rw [← hx] at e0 x0
      have Hx := hid hx; clear hx hcell a4
      by_cases hk1 : k < l1.length
      · obtain ⟨b', off', rfl, hbb', hcell'⟩ := b4 (by omega)
        have e1 : wr.cell? ⟨b', off' + k, none⟩ = some (.int .u64 (l1[k] : Nat)) := (hbel.cell (p := ⟨b', off' + k, none⟩) hbb').trans (hcell' k hk1)
        have y0 := small_get s1 k hk1
        obtain ⟨y, hy⟩ : ∃ y, y = l1[k] := ⟨_, rfl⟩
        rw [← hy] at e1 y0
        have Hy : Hid (y = l1[k]?.getD 0) := by unfold Hid; simpa [hk1] using hy
        clear hy hcell' b4
        obtain ⟨s, c2, hs, hsW, hc2, hadd⟩ := sub64 x y c' x0 y0 hc'
        have Hs := hid hs; clear hs
        go_wp2_with (first
          | (at_builtin; refine wpList_append_at rfl _ _ 24 rfl elemNat w.heap.size _ l rfl (hown.alloc _) _ [s] rfl (At.one _ _ _ _) (by rw [Hlk.out]; simp [maxLen]; omega) (by rw [Hlk.out]; simp; omega) (by have := hbel.size; simp; omega) ?_; intro v2 w2 ho2 hb2 hs2))
        go_roundw
        case rel => exact ⟨k + 1, l ++ [s], c2, by omega, by go_num, rfl, hc2, ho2, by simp [Hlk.out], small_snoc hsl hsW,
            minus_step Hlk.out Hx.out Hy.out Hs.out hv.out, (hbel.trans ((below1 _ _).mono hbel.size)).trans hb2⟩
        case measure => simp [intOf]; omega
      · obtain ⟨y, hy⟩ : ∃ y, y = 0 := ⟨_, rfl⟩
        have y0 : y < W := by rw [hy]; decide
        have Hy : Hid (y = l1[k]?.getD 0) := by unfold Hid; simpa [hk1] using hy
        obtain ⟨s, c2, hs, hsW, hc2, hadd⟩ := sub64 x y c' x0 y0 hc'
        have Hs := hid hs; clear hs
        rw [hy] at hadd; simp only [Int.natCast_zero] at hadd; clear hy
        go_wp2_with (first
          | (at_builtin; refine wpList_append_at rfl _ _ 24 rfl elemNat w.heap.size _ l rfl (hown.alloc _) _ [s] rfl (At.one _ _ _ _) (by rw [Hlk.out]; simp [maxLen]; omega) (by rw [Hlk.out]; simp; omega) (by have := hbel.size; simp; omega) ?_; intro v2 w2 ho2 hb2 hs2))
        go_roundw
        case rel => exact ⟨k + 1, l ++ [s], c2, by omega, by go_num, rfl, hc2, ho2, by simp [Hlk.out], small_snoc hsl hsW,
            minus_step Hlk.out Hx.out Hy.out Hs.out hv.out, (hbel.trans ((below1 _ _).mono hbel.size)).trans hb2⟩
        case measure => simp [intOf]; omega
    · obtain rfl : k = l0.length := by omega
      have hv' : val W l + val W l1 = val W l0 + c' * W ^ l0.length := by
        have := hv.out
        rwa [List.take_length, val_take_ge W l1 _ (by omega)] at this
      have hlt := val_lt (by decide : 0 < W) hsl
      have e : strip l = r := by
        rw [strip_dig W2 hsl, Hr.out, ← Hvv.out.2]
        have := Hvv.out.1
        rw [Hlk.out] at hlt
        have : c' = 0 := by
          rcases (by omega : c' = 0 ∨ c' = 1) with h | h
          · exact h
          · subst h; omega
        subst this
        congr 1; omega
      have He := hid e; clear hv hv' e hlt a4 b4
      go_wp2_with (first
        | (go_at_call 44; refine (trim_any _ l _ hown.at).mono ?_; rintro e w' ⟨v', rfl, hv', rfl⟩))
      go_ret
      exact ⟨_, rfl, by rw [← He.out]; exact hv', hbel⟩
end Go.Proofs.YtjfehknilofdjaaGreat
/- whole.compare: the order of sizes. -/
namespace Go.Proofs.YtjfehknilofdjaaGreat
open Go.RowKit Big

def ord (a b : Int) : Int := if a < b then -1 else if b < a then 1 else 0
theorem ord_lt {a b : Int} (h : a < b) : ord a b = -1 := by simp [ord, h]
theorem ord_gt {a b : Int} (h : b < a) : ord a b = 1 := by simp [ord, h]; omega
theorem ord_eq (a : Int) : ord a a = 0 := by simp [ord]

theorem cmpInt_any (a b : Int) (w : World) :
    Calls Tryz.prog 65 #[.int .i64 a, .int .i64 b] w fun e w' => e = .returned (.int .i64 (ord a b)) ∧ w' = w := by
  rcases Int.lt_trichotomy a b with h | h | h
  · rw [ord_lt h]
    go_enter Tryz.func65, Tryz.ntmps65
    go_wp2
    go_ret
    exact ⟨rfl, rfl⟩
  · subst h
    rw [ord_eq]
    go_enter Tryz.func65, Tryz.ntmps65
    go_wp2
    go_ret
    exact ⟨rfl, rfl⟩
  · have h' : ¬ a < b := by omega
    rw [ord_gt h]
    go_enter Tryz.func65, Tryz.ntmps65
    go_wp2
    go_ret
    exact ⟨rfl, rfl⟩
theorem cmpWord_any (a b : Int) (w : World) :
    Calls Tryz.prog 66 #[.int .u64 a, .int .u64 b] w fun e w' => e = .returned (.int .i64 (ord a b)) ∧ w' = w := by
  rcases Int.lt_trichotomy a b with h | h | h
  · rw [ord_lt h]
    go_enter Tryz.func66, Tryz.ntmps66
    go_wp2
    go_ret
    exact ⟨rfl, rfl⟩
  · subst h
    rw [ord_eq]
    go_enter Tryz.func66, Tryz.ntmps66
    go_wp2
    go_ret
    exact ⟨rfl, rfl⟩
  · have h' : ¬ a < b := by omega
    rw [ord_gt h]
    go_enter Tryz.func66, Tryz.ntmps66
    go_wp2
    go_ret
    exact ⟨rfl, rfl⟩

theorem drawn_more {w wr : World} {n : Nat} (h : ∃ j, wr = w.drewN j) : ∃ j, wr.drewN n = w.drewN j := by
  obtain ⟨j, rfl⟩ := h
  exact ⟨j + n, by rw [World.drewN_drewN]⟩
def ROrd (z : Int) (w : World) (e : Ending) (w' : World) : Prop := e = .returned (.int .i64 z) ∧ ∃ k, w' = w.drewN k

/-- the order, seen at the highest digits that part -/
theorem ord_part {l0 l1 : List Nat} {n m : Nat} (s0 : Small W l0) (s1 : Small W l1) (h0 : val W l0 = n) (h1 : val W l1 = m) {k : Nat} (hk0 : k < l0.length) (hk1 : k < l1.length)
    (hd : l0.drop (k + 1) = l1.drop (k + 1)) (hne : l0[k] ≠ l1[k]) : ord (l0[k] : Nat) (l1[k] : Nat) = ord n m := by
  rcases Nat.lt_or_ge l0[k] l1[k] with h | h
  · have := val_lt_of_part s0 hk0 hk1 hd h
    rw [ord_lt (by omega), ord_lt (by omega)]
  · have := val_lt_of_part s1 hk1 hk0 hd.symm (show l1[k] < l0[k] by omega)
    rw [ord_gt (by omega), ord_gt (by omega)]

set_option maxRecDepth 100000 in
set_option maxHeartbeats 800000 in
theorem compare_any (v0 v1 : Value) (n m : Nat) (w : World) (h0 : At w .u64 v0 (dig W n)) (h1 : At w .u64 v1 (dig W m)) :
    Calls Tryz.prog 52 #[v0, v1] w (ROrd (ord n m) w) := by
  have s0 := small_dig W2 n
  have s1 := small_dig W2 m
  have k1 : (dig W n).length < (dig W m).length → n < m := lt_of_sz_lt W2
  have k2 : (dig W m).length < (dig W n).length → m < n := lt_of_sz_lt W2
  have hv0 := val_dig W2 n
  have hv1 := val_dig W2 m
  generalize dig W n = l0 at *
  generalize dig W m = l1 at *
  have Hv0 := hid hv0; clear hv0
  have Hv1 := hid hv1; clear hv1
  obtain ⟨p0, c0, rfl, a1, a2, a3, a4⟩ := h0
  obtain ⟨p1, c1, rfl, b1, b2, b3, b4⟩ := h1
  unfold maxLen at a2 b2
  by_cases hl : l0.length = l1.length
  · have Hl := hid hl
    rw [hl] at a1 ⊢; clear hl
    go_enter Tryz.func52, Tryz.ntmps52
    go_wp2_with fail
    go_loopw [5] (fun i wr => ∃ (k : Nat), k ≤ l1.length ∧ i = .int .i64 ((k : Int) - 1) ∧ Hid (l0.drop k = l1.drop k) ∧ Hid (∃ j, wr = w.drewN j)) (fun i _ => (intOf i + 1).toNat)
    case atStart => exact ⟨l1.length, Nat.le_refl _, rfl, by unfold Hid; rw [List.drop_length, ← Hl.out, List.drop_length], 0, rfl⟩
    case round =>
      obtain ⟨k, hk, rfl, hd, Hw⟩ := hrel
      by_cases hk0 : 0 < k
      · obtain ⟨k, rfl⟩ : ∃ k', k = k' + 1 := ⟨k - 1, by omega⟩
        have hkl : k < l0.length := by rw [Hl.out]; omega
        obtain ⟨b, off, rfl, hbb, hc0⟩ := a4 (Nat.lt_of_le_of_lt (Nat.zero_le _) hkl)
        obtain ⟨b', off', rfl, hbb', hc1⟩ := b4 (by omega)
        have e0 : wr.cell? ⟨b, off + k, none⟩ = some (.int .u64 (l0[k] : Nat)) := by obtain ⟨j, rfl⟩ := Hw.out; exact hc0 k hkl
        have e1 : wr.cell? ⟨b', off' + k, none⟩ = some (.int .u64 (l1[k] : Nat)) := by obtain ⟨j, rfl⟩ := Hw.out; exact hc1 k (by omega)
        have ep := ord_part s0 s1 Hv0.out Hv1.out hkl (show k < l1.length by omega) hd.out
        have es : l0[k] = l1[k] → l0.drop k = l1.drop k := fun h => by
          rw [List.drop_eq_getElem_cons hkl, List.drop_eq_getElem_cons (show k < l1.length by omega), h, hd.out]
        generalize l0[k] = x at *
        generalize l1[k] = y at *
        have Ep := hid ep
        have Es : Hid (x = y → l0.drop k = l1.drop k) := es
        clear a4 b4 hc0 hc1 ep es hbb hbb' s0 s1 k1 k2
        have hlow : (0 : Int) ≤ (k : Int) + 1 - 1 := by omega
        have hsp : (k : Int) + 1 - 1 = (k : Int) := by omega
        by_cases hxy : x = y
        · subst hxy
          go_wp2
          go_quiet (fail)
          go_wp2
          go_roundw
          case rel => exact ⟨k, by omega, rfl, Es.out (by trivial), drawn_more Hw.out⟩
          case measure => simp [intOf]
        · have hb : ((x : Int) != (y : Int)) = true := bne_iff_ne.2 (fun h => hxy (by omega))
          go_wp2
          go_quiet (fail)
          go_wp2
          go_quiet ((go_at_call 66; exact quiet_add_same (cmpWord_any _ _ _)))
          go_wp2
          go_ret
          exact ⟨by rw [← Ep.out (fun h => hxy h)]; rfl, drawn_more (drawn_more Hw.out)⟩
      · obtain rfl : k = 0 := by omega
        have hn : ord n m = 0 := by
          have h := hd.out
          rw [List.drop_zero, List.drop_zero] at h
          rw [← Hv0.out, ← Hv1.out, h]; exact ord_eq _
        have Hn := hid hn
        clear hn a4 b4 k1 k2 hd
        go_wp2
        go_ret
        exact ⟨by rw [Hn.out]; rfl, Hw.out⟩
  · have hn : (l0.length < l1.length ∧ ord l0.length l1.length = ord n m) ∨ (l1.length < l0.length ∧ ord l0.length l1.length = ord n m) := by
      rcases Nat.lt_or_ge l0.length l1.length with h | h
      · exact Or.inl ⟨h, by have := k1 h; rw [ord_lt (by omega), ord_lt (by omega)]⟩
      · exact Or.inr ⟨by omega, by have := k2 (by omega); rw [ord_gt (by omega), ord_gt (by omega)]⟩
    have Hn : Hid (ord l0.length l1.length = ord n m) := by rcases hn with h | h <;> exact h.2
    clear hn a4 b4 k1 k2
    have hb : ((l0.length : Int) != (l1.length : Int)) = true := bne_iff_ne.2 (by omega)
    go_enter Tryz.func52, Tryz.ntmps52
    go_wp2_with (go_at_call 65; refine (cmpInt_any _ _ _).mono ?_; rintro e w' ⟨rfl, rfl⟩)
    go_ret
    exact ⟨by rw [← Hn.out]; rfl, 0, rfl⟩
end Go.Proofs.YtjfehknilofdjaaGreat
/- Small facts on new blocks. -/
namespace Go.Proofs.YtjfehknilofdjaaGreat
open Go.RowKit Big
theorem size_alloc (w : World) (o : Obj) : (w.alloc o).heap.size = w.heap.size + 1 := by simp
theorem heap_new2 (w : World) (o1 o2 : Obj) : ((w.alloc o1).alloc o2).drew.heap[w.heap.size + 1]? = some o2 := by
  have := heap_alloc_new (w.alloc o1) o2
  rwa [size_alloc] at this
theorem two_cells {w : World} {g : Nat} {a b : Value} {t : TypeId} (h : w.heap[g]? = some (.cells #[a, b] t (0, 0))) :
    w.cell? ⟨g, 0, none⟩ = some a ∧ w.cell? ⟨g, 1, none⟩ = some b ∧ w.frozen? ⟨g, 0, none⟩ = false ∧ w.frozen? ⟨g, 1, none⟩ = false :=
  ⟨by rw [cell_of_row w g 0 _ t (0, 0) h]; rfl, by rw [cell_of_row w g 1 _ t (0, 0) h]; rfl, frozen_of_row w g 0 _ t h, frozen_of_row w g 1 _ t h⟩
/-- block g is a variable that holds a whole number: a bool and a slice -/
def Pair (w : World) (g : Nat) (t : TypeId) : Prop := ∃ x p n c, w.heap[g]? = some (.cells #[.bool x, .slice p n c] t (0, 0))
theorem Pair.cells {w : World} {g : Nat} {t : TypeId} (h : Pair w g t) : ∃ a b, w.cell? ⟨g, 0, none⟩ = some a ∧ w.cell? ⟨g, 1, none⟩ = some b ∧ w.frozen? ⟨g, 0, none⟩ = false ∧ w.frozen? ⟨g, 1, none⟩ = false := by
  obtain ⟨x, p, n, c, h⟩ := h
  exact ⟨_, _, two_cells h⟩
theorem Pair.below {w w' : World} {g : Nat} {t : TypeId} (h : Pair w g t) (hb : Below w.heap.size w w') : Pair w' g t := by
  obtain ⟨x, p, n, c, h⟩ := h
  exact ⟨x, p, n, c, (hb.block g (Array.getElem?_eq_some_iff.1 h).1).trans h⟩
theorem Pair.lt {w : World} {g : Nat} {t : TypeId} (h : Pair w g t) : g < w.heap.size := by
  obtain ⟨x, p, n, c, h⟩ := h
  exact (Array.getElem?_eq_some_iff.1 h).1
theorem Pair.set0 {w : World} {g : Nat} {t : TypeId} (h : Pair w g t) (x : Bool) : Pair (w.setCell ⟨g, 0, none⟩ (.bool x)) g t := by
  obtain ⟨y, p, n, c, h⟩ := h
  exact ⟨x, p, n, c, heap_setCell_same w g 0 _ t _ h⟩
theorem Pair.set1 {w : World} {g : Nat} {t : TypeId} (h : Pair w g t) (p : Option Addr) (n c : Nat) : Pair (w.setCell ⟨g, 1, none⟩ (.slice p n c)) g t := by
  obtain ⟨y, p', n', c', h⟩ := h
  exact ⟨y, p, n, c, heap_setCell_same w g 1 _ t _ h⟩
theorem Pair.drew {w : World} {g : Nat} {t : TypeId} (h : Pair w g t) : Pair w.drew g t := h
theorem Pair.new (w : World) (x : Bool) (p : Option Addr) (n c : Nat) (t : TypeId) : Pair (w.alloc (.cells #[.bool x, .slice p n c] t)) w.heap.size t := ⟨x, p, n, c, heap_alloc_new w _⟩
theorem Pair.new1 (w : World) (o : Obj) (x : Bool) (p : Option Addr) (n c : Nat) (t : TypeId) : Pair ((w.alloc o).alloc (.cells #[.bool x, .slice p n c] t)) (w.heap.size + 1) t := by
  have := Pair.new (w.alloc o) x p n c t
  rwa [size_alloc] at this
theorem Pair.new2 (w : World) (o o' : Obj) (x : Bool) (p : Option Addr) (n c : Nat) (t : TypeId) : Pair (((w.alloc o).alloc o').alloc (.cells #[.bool x, .slice p n c] t)) (w.heap.size + 2) t := by
  have := Pair.new ((w.alloc o).alloc o') x p n c t
  rwa [size_alloc, size_alloc] at this
theorem Pair.new3 (w : World) (o o' o'' : Obj) (x : Bool) (p : Option Addr) (n c : Nat) (t : TypeId) : Pair ((((w.alloc o).alloc o').alloc o'').alloc (.cells #[.bool x, .slice p n c] t)) (w.heap.size + 1 + 1 + 1) t := by
  have := Pair.new (((w.alloc o).alloc o').alloc o'') x p n c t
  rwa [size_alloc, size_alloc, size_alloc] at this
/-- a store into such a variable turns no slice of numbers -/
theorem At.set {w : World} {k : IntKind} {v : Value} {l : List Nat} {g : Nat} {t : TypeId} (h : At w k v l) (hp : Pair w g t) (j : Nat) (u : Value) : At (w.setCell ⟨g, j, none⟩ u) k v l := by
  obtain ⟨p, cap, hv, h1, h2, h3, h4⟩ := h
  refine ⟨p, cap, hv, h1, h2, h3, fun hl => ?_⟩
  obtain ⟨b, off, h5, h6, h7⟩ := h4 hl
  have hne : b ≠ g := by
    rintro rfl
    obtain ⟨x, q, n, c, hh⟩ := hp
    have h0 := h7 0 hl
    rw [cell_of_row w b (off + 0) _ t (0, 0) hh] at h0
    rcases (by omega : off = 0 ∨ off = 1 ∨ 2 ≤ off) with e | e | e
    · subst e; simp at h0
    · subst e; simp at h0
    · rw [Array.getElem?_eq_none (by simpa using e)] at h0; cases h0
  refine ⟨b, off, h5, by simpa [World.setCell] using h6, fun i hi => ?_⟩
  rw [← h7 i hi]
  exact World.cell?_of_block (w := w) (Below.heap_setCell w _ u b hne)
theorem At.stored {w : World} {k : IntKind} {v : Value} {l : List Nat} {g : Nat} {t : TypeId} (h : At w k v l) (hp : Pair w g t) (x : Bool) (p : Option Addr) (n c : Nat) :
    At ((w.setCell ⟨g, 0, none⟩ (.bool x)).setCell ⟨g, 1, none⟩ (.slice p n c)) k v l := (h.set hp 0 _).set (hp.set0 x) 1 _
theorem IntAt.stored {w : World} {v : Value} {z : Int} {g : Nat} {t : TypeId} (h : IntAt w v z) (hp : Pair w g t) (x : Bool) (p : Option Addr) (n c : Nat) :
    IntAt ((w.setCell ⟨g, 0, none⟩ (.bool x)).setCell ⟨g, 1, none⟩ (.slice p n c)) v z := by
  obtain ⟨s, hs, ha⟩ := h
  exact ⟨s, hs, ha.stored hp x p n c⟩
theorem Below.stored {B : Nat} {w w' : World} (h : Below B w w') {g : Nat} (hg : B ≤ g) (u u' : Value) : Below B w ((w'.setCell ⟨g, 0, none⟩ u).setCell ⟨g, 1, none⟩ u') :=
  (h.setCell (p := ⟨g, 0, none⟩) hg u).setCell (p := ⟨g, 1, none⟩) hg u'
theorem IntAt.shape {w : World} {v : Value} {z : Int} (h : IntAt w v z) : ∃ p n c, v = .agg #[.bool (decide (z < 0)), .slice p n c] ∧ IntAt w (.agg #[.bool (decide (z < 0)), .slice p n c]) z := by
  obtain ⟨s, rfl, p, c, rfl, r⟩ := h
  exact ⟨p, _, c, rfl, _, rfl, p, c, rfl, r⟩
theorem At.oneI (w : World) (k : IntKind) (e : Int) (x : Nat) (t : TypeId) (h : e = (x : Int)) : At (w.alloc (.cells #[.int k e] t)) k (.slice (some ⟨w.heap.size, 0, none⟩) 1 1) [x] := by
  subst h; exact At.one w k x t
theorem cell_stored (w : World) {g : Nat} {p : Addr} (h : p.block ≠ g) (u u' : Value) : ((w.setCell ⟨g, 0, none⟩ u).setCell ⟨g, 1, none⟩ u').cell? p = w.cell? p :=
  World.cell?_of_block (w := w) ((Below.heap_setCell _ _ _ _ h).trans (Below.heap_setCell _ _ _ _ h))
/-- the cells of two variables that a call has laid for its arguments -/
structure Two (w : World) (g : Nat) (a b c d : Value) : Prop where
  c00 : w.cell? ⟨g, 0, none⟩ = some a
  c01 : w.cell? ⟨g, 1, none⟩ = some b
  c10 : w.cell? ⟨g + 1, 0, none⟩ = some c
  c11 : w.cell? ⟨g + 1, 1, none⟩ = some d
  lt : g + 2 ≤ w.heap.size
theorem Two.new (w : World) (a b c d : Value) (t : TypeId) : Two ((w.alloc (.cells #[a, b] t)).alloc (.cells #[c, d] t)) w.heap.size a b c d := by
  have h0 : ((w.alloc (.cells #[a, b] t)).alloc (.cells #[c, d] t)).heap[w.heap.size]? = some (.cells #[a, b] t (0, 0)) := by
    rw [heap_alloc_old _ _ (by simp)]; exact heap_alloc_new w _
  have h1 : ((w.alloc (.cells #[a, b] t)).alloc (.cells #[c, d] t)).heap[w.heap.size + 1]? = some (.cells #[c, d] t (0, 0)) := heap_new2 w _ _
  exact ⟨(two_cells h0).1, (two_cells h0).2.1, (two_cells h1).1, (two_cells h1).2.1, by simp⟩
theorem Two.below {w w' : World} {g : Nat} {a b c d : Value} (h : Two w g a b c d) (hb : Below w.heap.size w w') : Two w' g a b c d :=
  ⟨(hb.cell (p := ⟨g, 0, none⟩) (by have := h.lt; show g < _; omega)).trans h.c00, (hb.cell (p := ⟨g, 1, none⟩) (by have := h.lt; show g < _; omega)).trans h.c01,
   (hb.cell (p := ⟨g + 1, 0, none⟩) (by have := h.lt; show g + 1 < _; omega)).trans h.c10, (hb.cell (p := ⟨g + 1, 1, none⟩) (by have := h.lt; show g + 1 < _; omega)).trans h.c11, Nat.le_trans h.lt hb.size⟩
end Go.Proofs.YtjfehknilofdjaaGreat
/- whole.Norm, Neg, Sign, Cmp, Add, Sub. -/
namespace Go.Proofs.YtjfehknilofdjaaGreat
open Go.RowKit Big

end Go.Proofs.YtjfehknilofdjaaGreat
/- whole.Neg, Sign, Cmp, Add, Sub. -/
namespace Go.Proofs.YtjfehknilofdjaaGreat
open Go.RowKit Big

set_option maxHeartbeats 800000 in
theorem Neg_any (v : Value) (z : Int) (w : World) (h : RawAt w v z) : Calls Tryz.prog 32 #[v] w (RInt (-z) w) := by
  obtain ⟨neg, s, l, rfl, ha, hs, hl, rfl⟩ := h
  have Hs := hid (strip_dig W2 hs)
  have Hz : Hid (-sg neg (val W l) = sg (!neg) (val W l)) := by unfold Hid sg; cases neg <;> simp
  obtain ⟨z, hz⟩ : ∃ z, z = -sg neg (val W l) := ⟨_, rfl⟩
  rw [← hz]
  rw [← hz] at Hz
  clear hz
  go_enter Tryz.func32, Tryz.ntmps32
  go_wp2_with fail
  go_region_held3 (fun w' => w'.cell? ⟨w.heap.size, 0, none⟩ = some (.bool neg) ∧ w'.cell? ⟨w.heap.size, 1, none⟩ = some s ∧ Pair w' (w.heap.size + 1) 26)
    (first | (go_split_ands; (try dsimp only); (repeat' apply And.intro) <;> first | assumption | exact Pair.drew ‹_› | exact Pair.below ‹_› hb9 | exact Pair.below ‹_› hb8 | exact Pair.below ‹_› hb7 | exact Pair.below ‹_› hb6 | exact Pair.below ‹_› hb5 | exact Pair.below ‹_› hb4 | exact Pair.below ‹_› hb3 | exact Pair.below ‹_› hb2 | exact Pair.below ‹_› hb1 | exact (hb9.cell (by first | omega | (simp; omega) | (simp; done))).trans ‹_› | exact (hb8.cell (by first | omega | (simp; omega) | (simp; done))).trans ‹_› | exact (hb7.cell (by first | omega | (simp; omega) | (simp; done))).trans ‹_› | exact (hb6.cell (by first | omega | (simp; omega) | (simp; done))).trans ‹_› | exact (hb5.cell (by first | omega | (simp; omega) | (simp; done))).trans ‹_› | exact (hb4.cell (by first | omega | (simp; omega) | (simp; done))).trans ‹_› | exact (hb3.cell (by first | omega | (simp; omega) | (simp; done))).trans ‹_› | exact (hb2.cell (by first | omega | (simp; omega) | (simp; done))).trans ‹_› | exact (hb1.cell (by first | omega | (simp; omega) | (simp; done))).trans ‹_› | exact Pair.set1 (Pair.set0 ‹_› _) _ _ _ | exact (cell_stored _ (by first | (dsimp only; omega) | (simp; done) | (simp; omega)) _ _).trans ‹_› | exact Pair.drew (Pair.below ‹_› (below1 _ _)) | exact Pair.below ‹_› (below1 _ _) | exact Pair.far ‹_› (by omega) hb1 | exact Pair.new .. | exact Pair.new1 .. | exact Pair.new2 .. | (go_keep; done)) | (go_keep; done))
    (first
      | (go_at_call 50; refine (own_any s l _ ?_ hl).mono ?_; (repeat (first | exact ha | apply At.drew | apply At.alloc)); rintro e w1 ⟨v1, rfl, ho1, hb1⟩; have hz1 : w.heap.size + 2 ≤ w1.heap.size := (by have := hb1.size; simp at this; omega))
      | (go_at_call 49; refine (told_any (!neg) _ _ _ (by rw [← Hs.out]; exact ho1.at)).mono ?_; rintro e w2 ⟨v2, rfl, hi2, hb2⟩; obtain ⟨p2, n2, c2, rfl, hi2⟩ := hi2.shape; have hpr := Pair.below (by go_split_ands; assumption) hb2; obtain ⟨_, _, q0, q1, q2, q3⟩ := hpr.cells))
  go_wp2
  exact bodyPost_ret (v := .agg #[.bool (decide (sg (!neg) (val W l) < 0)), .slice p2 n2 c2]) (by simp [results, Tryz.results32, go_sem, q0, q1]) rfl
    ⟨_, rfl, by rw [Hz.out]; exact hi2.stored hpr _ _ _ _, Below.stored ((((below1 _ _).alloc (by simp) _).drew.trans (hb1.mono (B' := w.heap.size) (by simp; omega))).trans (hb2.mono (B' := w.heap.size) (by omega))) (by omega) _ _⟩

theorem sign_sg (neg : Bool) (n : Nat) : (sg neg n).sign = if n = 0 then 0 else if neg then -1 else 1 := by
  unfold sg
  by_cases h : n = 0
  · subst h; cases neg <;> simp
  · rw [if_neg h]
    cases neg
    · simp only [Bool.false_eq_true, if_false]; exact Int.sign_eq_one_of_pos (by omega)
    · simp only [if_true]; exact Int.sign_eq_neg_one_of_neg (by omega)

set_option maxHeartbeats 800000 in
theorem Sign_any (v : Value) (z : Int) (w : World) (h : RawAt w v z) : Calls Tryz.prog 26 #[v] w (fun e w' => e = .returned (.int .i64 z.sign) ∧ Below w.heap.size w w') := by
  obtain ⟨neg, s, l, rfl, ha, hs, hl, rfl⟩ := h
  have Hs := hid (strip_dig W2 hs)
  have Hz := hid (sign_sg neg (val W l))
  have ht : ∀ o, Calls Tryz.prog 44 #[s] (w.alloc o) (fun e w' => e = .returned (cutTo s (strip l).length) ∧ w' = w.alloc o) := fun o => trim_val s l _ (ha.alloc o)
  have Ht := hid ht; clear ht
  obtain ⟨p, c, rfl, -⟩ := ha
  obtain ⟨n, hn⟩ : ∃ n, n = val W l := ⟨_, rfl⟩
  obtain ⟨m, hm⟩ : ∃ m, m = (strip l).length := ⟨_, rfl⟩
  have hmn : m = 0 ↔ n = 0 := by rw [hm, Hs.out, ← hn]; exact sz_eq_zero W2
  rw [← hn] at Hz ⊢
  rw [← hm] at Ht
  clear hm hn
  obtain ⟨z, hz⟩ : ∃ z, z = (sg neg n).sign := ⟨_, rfl⟩
  rw [← hz] at Hz ⊢
  clear hz
  by_cases h0 : m = 0
  · have hz : z = 0 := by rw [Hz.out, if_pos (hmn.1 h0)]
    subst hz
    subst h0
    go_enter Tryz.func26, Tryz.ntmps26
    go_wp2_with (go_at_call 44; refine (Ht.out _).mono ?_; rintro e w' ⟨rfl, rfl⟩; simp only [cutTo])
    go_ret
    exact ⟨rfl, below1 _ _⟩
  · have hz : z = if neg then -1 else 1 := by rw [Hz.out, if_neg (fun e => h0 (hmn.2 e))]
    have hb : ((m : Int) == 0) = false := beq_eq_false_iff_ne.2 (by omega)
    cases neg
    · simp only [Bool.false_eq_true, if_false] at hz
      subst hz
      go_enter Tryz.func26, Tryz.ntmps26
      go_wp2_with (go_at_call 44; refine (Ht.out _).mono ?_; rintro e w' ⟨rfl, rfl⟩; simp only [cutTo])
      go_ret
      exact ⟨rfl, below1 _ _⟩
    · simp only [if_true] at hz
      subst hz
      go_enter Tryz.func26, Tryz.ntmps26
      go_wp2_with (go_at_call 44; refine (Ht.out _).mono ?_; rintro e w' ⟨rfl, rfl⟩; simp only [cutTo])
      go_ret
      exact ⟨rfl, below1 _ _⟩

end Go.Proofs.YtjfehknilofdjaaGreat
/- whole.told, whole.Norm: what they tell lies in memory of its own. -/
namespace Go.Proofs.YtjfehknilofdjaaGreat
open Go.RowKit Big

/-- a whole number as it is told, its words a row from block B on -/
def IntOwn (w : World) (B : Nat) (v : Value) (z : Int) : Prop := ∃ s, v = .agg #[.bool (decide (z < 0)), s] ∧ Own w B 54 .u64 s (dig W z.natAbs)
theorem IntOwn.told {w : World} {B : Nat} {v : Value} {z : Int} (h : IntOwn w B v z) : IntAt w v z := by
  obtain ⟨s, rfl, h⟩ := h
  exact ⟨s, rfl, h.at⟩
theorem IntOwn.kept {w w' : World} {B : Nat} {v : Value} {z : Int} (h : IntOwn w B v z) (hb : Below w.heap.size w w') : IntOwn w' B v z := by
  obtain ⟨s, rfl, h⟩ := h
  exact ⟨s, rfl, h.kept hb⟩
theorem IntOwn.mono {w : World} {B B' : Nat} {v : Value} {z : Int} (h : IntOwn w B v z) (hb : B' ≤ B) : IntOwn w B' v z := by
  obtain ⟨s, rfl, h⟩ := h
  exact ⟨s, rfl, h.mono hb⟩
theorem IntOwn.zero (w : World) (B : Nat) : IntOwn w B (.agg #[.bool false, .slice none 0 0]) 0 := ⟨_, by simp, Own.nil w B _ _⟩
theorem IntOwn.mk {w : World} {B : Nat} {neg : Bool} {s : Value} {n : Nat} (h0 : n ≠ 0) (h : Own w B 54 .u64 s (dig W n)) : IntOwn w B (.agg #[.bool neg, s]) (sg neg n) :=
  ⟨s, by rw [sg_neg neg n h0], by rw [sg_natAbs]; exact h⟩
theorem IntOwn.shape {w : World} {B : Nat} {v : Value} {z : Int} (h : IntOwn w B v z) : ∃ p n c, v = .agg #[.bool (decide (z < 0)), .slice p n c] ∧ IntOwn w B (.agg #[.bool (decide (z < 0)), .slice p n c]) z := by
  have h1 := h.told
  obtain ⟨p, n, c, rfl, -⟩ := h1.shape
  exact ⟨p, n, c, rfl, h⟩
theorem IntOwn.stored {w : World} {B : Nat} {v : Value} {z : Int} {g : Nat} (h : IntOwn w B v z) (hg : g < B) (u u' : Value) :
    IntOwn ((w.setCell ⟨g, 0, none⟩ u).setCell ⟨g, 1, none⟩ u') B v z := by
  obtain ⟨s, rfl, h⟩ := h
  exact ⟨s, rfl, ownsRow_setCell_below (ownsRow_setCell_below h (a := ⟨g, 0, none⟩) hg u) (a := ⟨g, 1, none⟩) hg u'⟩

end Go.Proofs.YtjfehknilofdjaaGreat
/- What stays when a call writes into blocks of a set S alone, and into new ones. -/
namespace Go.Proofs.YtjfehknilofdjaaGreat
open Go.RowKit

/-- of what was there only blocks of S may have turned -/
structure Apart (S : Nat → Prop) (w w' : World) : Prop where
  os : w'.os = w.os
  tape : w'.tape = w.tape
  output : w'.output = w.output
  size : w.heap.size ≤ w'.heap.size
  block : ∀ k, k < w.heap.size → ¬ S k → w'.heap[k]? = w.heap[k]?
theorem Apart.refl (S : Nat → Prop) (w : World) : Apart S w w := ⟨rfl, rfl, rfl, Nat.le_refl _, fun _ _ _ => rfl⟩
theorem Apart.trans {S S' : Nat → Prop} {a b c : World} (h : Apart S a b) (k : Apart S' b c) (hS : ∀ i, S' i → S i ∨ a.heap.size ≤ i) : Apart S a c :=
  ⟨k.os.trans h.os, k.tape.trans h.tape, k.output.trans h.output, Nat.le_trans h.size k.size, fun i hi hn => (k.block i (Nat.lt_of_lt_of_le hi h.size) (fun hs => by
    rcases hS i hs with h1 | h1
    · exact hn h1
    · omega)).trans (h.block i hi hn)⟩
theorem Apart.go {S : Nat → Prop} {a b c : World} (h : Apart S a b) (k : Apart S b c) : Apart S a c := h.trans k (fun _ h => .inl h)
theorem Apart.mono {S S' : Nat → Prop} {w w' : World} (h : Apart S w w') (hS : ∀ i, S i → S' i) : Apart S' w w' :=
  ⟨h.os, h.tape, h.output, h.size, fun i hi hn => h.block i hi (fun hs => hn (hS i hs))⟩
theorem Apart.of_below {S : Nat → Prop} {w w' : World} (h : Below w.heap.size w w') : Apart S w w' := ⟨h.os, h.tape, h.output, h.size, fun i hi _ => h.block i hi⟩
theorem Apart.below {S : Nat → Prop} {w w' : World} {B : Nat} (h : Apart S w w') (hB : B ≤ w.heap.size) (hS : ∀ i, S i → B ≤ i) : Below B w w' :=
  ⟨h.os, h.tape, h.output, h.size, fun i hi => h.block i (by omega) (fun hs => by have := hS i hs; omega)⟩
theorem Apart.setCell {S : Nat → Prop} {a w : World} (h : Apart S a w) {p : Addr} (hp : S p.block) (u : Value) : Apart S a (w.setCell p u) :=
  h.go ⟨rfl, rfl, rfl, by simp [World.setCell], fun k _ hn => Below.heap_setCell _ _ _ _ (fun e => hn (by rw [e]; exact hp))⟩
theorem Apart.grown {S : Nat → Prop} {a w w' : World} {row : Option Nat} (h : Apart S a w) (hg : w.grownBy w' row) (hr : ∀ k, row = some k → S k) : Apart S a w' :=
  h.go ⟨hg.os, hg.tape, hg.output, hg.size, fun k hk hn => hg.block k hk (fun e => hn (hr k e.symm))⟩
theorem Apart.drew {S : Nat → Prop} {a w : World} (h : Apart S a w) : Apart S a w.drew := ⟨h.os, h.tape, h.output, h.size, h.block⟩
theorem Apart.drewN {S : Nat → Prop} {a w : World} (h : Apart S a w) (n : Nat) : Apart S a (w.drewN n) := ⟨h.os, h.tape, h.output, h.size, h.block⟩
theorem Apart.cell {S : Nat → Prop} {w w' : World} (h : Apart S w w') {p : Addr} (hp : p.block < w.heap.size) (hn : ¬ S p.block) : w'.cell? p = w.cell? p :=
  World.cell?_of_block (w := w) (h.block p.block hp hn)

/-- the block of a row, if it has one, is one of S -/
def InS (S : Nat → Prop) (v : Value) : Prop := ∀ k, v.ownBlock = some k → S k
theorem InS.mono {S S' : Nat → Prop} {v : Value} (h : InS S v) (hS : ∀ i, S i → S' i) : InS S' v := fun k hk => hS k (h k hk)
/-- a row stays where its block does -/
theorem row_stays {w w' : World} {base : Nat} {e : TypeId} {size : Nat} {v : Value} {n : Nat} {xs : List Value} (h : w.ownsRow base e size v n xs) (hb : ∀ k, v.ownBlock = some k → w'.heap[k]? = w.heap[k]?) : w'.ownsRow base e size v n xs := by
  obtain ⟨hl, h0 | ⟨g, cap, cur, rfl, hg, hh, r⟩⟩ := h
  · exact ⟨hl, .inl h0⟩
  · exact ⟨hl, .inr ⟨g, cap, cur, rfl, hg, (hb g rfl).trans hh, r⟩⟩
theorem row_tag {w : World} {b : Nat} {e : TypeId} {s : Nat} {v : Value} {n : Nat} {xs : List Value} (h : w.ownsRow b e s v n xs) : ∀ k, v.ownBlock = some k → ∃ c, w.heap[k]? = some (.cells c e (0, 0)) := by
  intro k hk
  rcases h.2 with ⟨rfl, _⟩ | ⟨g, cap, cur, rfl, _, hg, _⟩
  · cases hk
  · cases hk; exact ⟨_, hg⟩

end Go.Proofs.YtjfehknilofdjaaGreat
/- Rows whose parts are told by a predicate; numbers as they come in; what stays when only blocks of some types turn; rows of one's own. -/
namespace Go.Proofs.YtjfehknilofdjaaGreat
open Go.RowKit Big

theorem ownsRow_later {w w' : World} {base : Nat} {e : TypeId} {size : Nat} {v : Value} {n : Nat} {xs : List Value} (h : w.ownsRow base e size v n xs) (hb : Below w.heap.size w w') : w'.ownsRow base e size v n xs := by
  obtain ⟨hl, h0 | ⟨g, cap, cur, hv, hg, hh, r⟩⟩ := h
  · exact ⟨hl, .inl h0⟩
  · exact ⟨hl, .inr ⟨g, cap, cur, hv, hg, (hb.block g (Array.getElem?_eq_some_iff.1 hh).1).trans hh, r⟩⟩
theorem ownsRow_shape {w : World} {base : Nat} {e : TypeId} {size : Nat} {v : Value} {n : Nat} {xs : List Value} (h : w.ownsRow base e size v n xs) : ∃ p c, v = .slice p n c := by
  rcases h.2 with ⟨rfl, rfl⟩ | ⟨g, cap, cur, rfl, _⟩
  · exact ⟨_, _, rfl⟩
  · exact ⟨_, _, rfl⟩
theorem ownsRow_mono {w : World} {base base' : Nat} {e : TypeId} {size : Nat} {v : Value} {n : Nat} {xs : List Value} (h : w.ownsRow base e size v n xs) (hb : base' ≤ base) : w.ownsRow base' e size v n xs := by
  obtain ⟨hl, h0 | ⟨g, cap, cur, hv, hg, r⟩⟩ := h
  · exact ⟨hl, .inl h0⟩
  · exact ⟨hl, .inr ⟨g, cap, cur, hv, Nat.le_trans hb hg, r⟩⟩
/-- a row whose parts of k cells are told by Q -/
def LsIn {α : Type} (k : Nat) (Q : World → List Value → α → Prop) (w : World) (v : Value) (l : List α) : Prop :=
  ∃ p cap, v = .slice p l.length cap ∧ l.length ≤ cap ∧ cap ≤ maxLen ∧ (p = none → cap = 0) ∧
    (0 < l.length → ∃ b off, p = some ⟨b, off, none⟩ ∧ b < w.heap.size ∧ ∀ i (h : i < l.length), ∃ c : List Value, (∀ j u, c[j]? = some u → w.cell? ⟨b, off + i * k + j, none⟩ = some u) ∧ Q w c l[i])
theorem LsIn.below {α : Type} {k : Nat} {Q : World → List Value → α → Prop} (hQ : ∀ {w w' : World} {c : List Value} {x : α}, Q w c x → Below w.heap.size w w' → Q w' c x) {w w' : World} {v : Value} {l : List α} (h : LsIn k Q w v l) (hb : Below w.heap.size w w') : LsIn k Q w' v l := by
  obtain ⟨p, cap, rfl, h1, h2, h3, h4⟩ := h
  refine ⟨p, cap, rfl, h1, h2, h3, fun hp => ?_⟩
  obtain ⟨b, off, h5, h6, h7⟩ := h4 hp
  refine ⟨b, off, h5, Nat.lt_of_lt_of_le h6 hb.size, fun i hi => ?_⟩
  obtain ⟨c, k1, k2⟩ := h7 i hi
  exact ⟨c, fun j u hj => (hb.cell (p := ⟨b, off + i * k + j, none⟩) h6).trans (k1 j u hj), hQ k2 hb⟩
/-- a number as it comes in -/
structure Nx where
  neg : Bool
  words : List Nat
def Nx.z (x : Nx) : Int := sg x.neg (val W x.words)
def NxQ (w : World) (c : List Value) (x : Nx) : Prop := ∃ p cp, c = [.bool x.neg, .slice p x.words.length cp] ∧ At w .u64 (.slice p x.words.length cp) x.words ∧ Small W x.words
theorem NxQ.below {w w' : World} {c : List Value} {x : Nx} (h : NxQ w c x) (hb : Below w.heap.size w w') : NxQ w' c x := by
  obtain ⟨p, cp, e, h1, h2⟩ := h
  exact ⟨p, cp, e, h1.below hb, h2⟩
def Nx.fit (x : Nx) : Prop := x.words.length ≤ 6
theorem NxQ.raw {w : World} {n s : Value} {x : Nx} (h : NxQ w [n, s] x) (hf : x.fit) : RawAt w (.agg #[n, s]) x.z := by
  obtain ⟨p, cp, e, h1, h2⟩ := h
  injection e with e0 e
  injection e with e1 _
  subst e0 e1
  exact ⟨_, _, _, rfl, h1, h2, Nat.le_trans hf (by decide), rfl⟩
theorem NxQ.small {w : World} {c : List Value} {x : Nx} (h : NxQ w c x) (hf : x.fit) : sz W x.z.natAbs ≤ 6 := by
  obtain ⟨p, cp, e, h1, h2⟩ := h
  unfold Nx.z
  rw [sg_natAbs]
  exact Nat.le_trans (sz_val W2 h2) hf
theorem NxQ.two {w : World} {c : List Value} {x : Nx} (h : NxQ w c x) : ∃ s, c = [.bool x.neg, s] := by
  obtain ⟨p, cp, e, -⟩ := h
  exact ⟨_, e⟩
abbrev NxsIn := LsIn 2 NxQ
theorem NxsIn.below {w w' : World} {v : Value} {l : List Nx} (h : NxsIn w v l) (hb : Below w.heap.size w w') : NxsIn w' v l := LsIn.below (Q := NxQ) (fun h hb => NxQ.below h hb) h hb
theorem NxsIn.small {w : World} {v : Value} {l : List Nx} (h : NxsIn w v l) (hf : ∀ x ∈ l, x.fit) : ∀ z ∈ l.map Nx.z, sz W z.natAbs ≤ 6 := by
  intro z hz
  obtain ⟨x, hx, rfl⟩ := List.mem_map.1 hz
  obtain ⟨i, hi, rfl⟩ := List.mem_iff_getElem.1 hx
  obtain ⟨p, cap, -, -, -, -, h4⟩ := h
  obtain ⟨b, off, -, -, h7⟩ := h4 (by omega)
  obtain ⟨c, -, k2⟩ := h7 i hi
  exact k2.small (hf _ hx)
/-- of what was there only blocks of these types may have turned -/
structure OffT (Ts : List TypeId) (w w' : World) : Prop where
  os : w'.os = w.os
  tape : w'.tape = w.tape
  output : w'.output = w.output
  size : w.heap.size ≤ w'.heap.size
  block : ∀ (k : Nat) (c : Array Value) (T : TypeId), w.heap[k]? = some (.cells c T (0, 0)) → T ∉ Ts → w'.heap[k]? = some (.cells c T (0, 0))
theorem OffT.refl (Ts : List TypeId) (w : World) : OffT Ts w w := ⟨rfl, rfl, rfl, Nat.le_refl _, fun _ _ _ h _ => h⟩
theorem OffT.trans {Ts : List TypeId} {a b c : World} (h : OffT Ts a b) (k : OffT Ts b c) : OffT Ts a c :=
  ⟨k.os.trans h.os, k.tape.trans h.tape, k.output.trans h.output, Nat.le_trans h.size k.size, fun i o T hi hn => k.block i o T (h.block i o T hi hn) hn⟩
theorem OffT.mono {Ts Ts' : List TypeId} {a b : World} (h : OffT Ts a b) (hs : ∀ T ∈ Ts, T ∈ Ts') : OffT Ts' a b :=
  ⟨h.os, h.tape, h.output, h.size, fun i o T hi hn => h.block i o T hi (fun hT => hn (hs T hT))⟩
theorem OffT.of_below {Ts : List TypeId} {w w' : World} (h : Below w.heap.size w w') : OffT Ts w w' :=
  ⟨h.os, h.tape, h.output, h.size, fun i _ _ hi _ => (h.block i (Array.getElem?_eq_some_iff.1 hi).1).trans hi⟩
theorem OffT.row {Ts : List TypeId} {w w' : World} (h : OffT Ts w w') {b : Nat} {e : TypeId} {s : Nat} {v : Value} {n : Nat} {xs : List Value} (hr : w.ownsRow b e s v n xs) (he : e ∉ Ts) : w'.ownsRow b e s v n xs :=
  row_stays hr fun k hk => by
    obtain ⟨c, hc⟩ := row_tag hr k hk
    rw [hc]
    exact h.block k c e hc he
theorem OffT.own {Ts : List TypeId} {w w' : World} (h : OffT Ts w w') {B : Nat} {v : Value} {z : Int} (hi : IntOwn w B v z) (he : 54 ∉ Ts) : IntOwn w' B v z := by
  obtain ⟨s, hs, ho⟩ := hi
  exact ⟨s, hs, h.row ho he⟩
/-- a row of one's own whose parts of k cells are told by Q -/
def OwnLs {α : Type} (e : TypeId) (k : Nat) (Q : World → List Value → α → Prop) (B : Nat) (w : World) (v : Value) (l : List α) : Prop :=
  ∃ css : List (List Value), css.length = l.length ∧ w.ownsRow B e k v l.length css.flatten ∧ (∀ c ∈ css, c.length = k) ∧ ∀ i (h : i < l.length) (h' : i < css.length), Q w css[i] l[i]
theorem OwnLs.nil {α : Type} (e : TypeId) (k : Nat) (Q : World → List Value → α → Prop) (B : Nat) (w : World) : OwnLs e k Q B w (.slice none 0 0) ([] : List α) :=
  ⟨[], rfl, World.ownsRow_nil w B e k, nofun, fun i h => absurd h (by simp)⟩
theorem OwnLs.off {α : Type} {e : TypeId} {k : Nat} {Q : World → List Value → α → Prop} {B : Nat} {w w' : World} {v : Value} {l : List α} (h : OwnLs e k Q B w v l) {Ts : List TypeId} (hf : OffT Ts w w') (he : e ∉ Ts) (hQ : ∀ c x, Q w c x → Q w' c x) : OwnLs e k Q B w' v l := by
  obtain ⟨css, h1, h2, h3, h4⟩ := h
  exact ⟨css, h1, hf.row h2 he, h3, fun i hi hi' => hQ _ _ (h4 i hi hi')⟩
/-- what is told of the parts is kept, and the row's block stays -/
theorem OwnLs.kept {α : Type} {e : TypeId} {k : Nat} {Q : World → List Value → α → Prop} {B : Nat} {w w' : World} {v : Value} {l : List α} (h : OwnLs e k Q B w v l) (hb : ∀ g, v.ownBlock = some g → w'.heap[g]? = w.heap[g]?) (hQ : ∀ c x, Q w c x → Q w' c x) : OwnLs e k Q B w' v l := by
  obtain ⟨css, h1, h2, h3, h4⟩ := h
  exact ⟨css, h1, row_stays h2 hb, h3, fun i hi hi' => hQ _ _ (h4 i hi hi')⟩
theorem OwnLs.mono {α : Type} {e : TypeId} {k : Nat} {Q : World → List Value → α → Prop} {B B' : Nat} {w : World} {v : Value} {l : List α} (h : OwnLs e k Q B w v l) (hB : B' ≤ B) : OwnLs e k Q B' w v l := by
  obtain ⟨css, h1, h2, h3, h4⟩ := h
  exact ⟨css, h1, ownsRow_mono h2 hB, h3, h4⟩
theorem OwnLs.row {α : Type} {e : TypeId} {k : Nat} {Q : World → List Value → α → Prop} {B : Nat} {w : World} {v : Value} {l : List α} (h : OwnLs e k Q B w v l) : ∃ xs, w.ownsRow B e k v l.length xs ∧
    ∀ w' v' c x, w'.ownsRow B e k v' (l.length + 1) (xs ++ c) → c.length = k → (∀ c x, Q w c x → Q w' c x) → Q w' c x → OwnLs e k Q B w' v' (l ++ [x]) := by
  obtain ⟨css, h1, h2, h3, h4⟩ := h
  refine ⟨css.flatten, h2, fun w' v' c x hr hc hQ hx => ⟨css ++ [c], by simp [h1], by simpa using hr, fun d hd => ?_, fun i hi hi' => ?_⟩⟩
  · rcases List.mem_append.1 hd with hd | hd
    · exact h3 d hd
    · rw [List.mem_singleton.1 hd]; exact hc
  · by_cases hlt : i < l.length
    · rw [List.getElem_append_left hlt, List.getElem_append_left (by omega)]
      exact hQ _ _ (h4 i hlt (by omega))
    · have e1 : i = l.length := by simp at hi; omega
      subst e1
      rw [List.getElem_append_right (Nat.le_refl _), List.getElem_append_right (by omega)]
      simpa [h1] using hx
theorem OwnLs.shape {α : Type} {e : TypeId} {k : Nat} {Q : World → List Value → α → Prop} {B : Nat} {w : World} {v : Value} {l : List α} (h : OwnLs e k Q B w v l) : ∃ p c, v = .slice p l.length c := by
  obtain ⟨css, h1, h2, h3, h4⟩ := h
  exact ownsRow_shape h2
theorem flatten_at {k : Nat} : ∀ {css : List (List Value)}, (∀ c ∈ css, c.length = k) → ∀ i (h : i < css.length) j u, css[i][j]? = some u → css.flatten[i * k + j]? = some u
  | c :: css, hc, 0, _, j, u, hj => by
    have hj : c[j]? = some u := hj
    have hl := (List.getElem?_eq_some_iff.1 hj).1
    rw [Nat.zero_mul, Nat.zero_add, List.flatten_cons, List.getElem?_append_left hl]
    exact hj
  | c :: css, hc, i + 1, h, j, u, hj => by
    have h1 := flatten_at (css := css) (fun d hd => hc d (by simp [hd])) i (by simpa using h) j u hj
    have h2 := hc c (by simp)
    rw [List.flatten_cons, List.getElem?_append_right (by rw [h2, Nat.succ_mul]; omega), h2]
    rw [show (i + 1) * k + j - k = i * k + j from by rw [Nat.succ_mul]; omega]
    exact h1
/-- it reads so -/
theorem OwnLs.in {α : Type} {e : TypeId} {k : Nat} {Q : World → List Value → α → Prop} {B : Nat} {w : World} {v : Value} {l : List α} (h : OwnLs e k Q B w v l) : LsIn k Q w v l := by
  obtain ⟨css, h1, h2, h3, h4⟩ := h
  rcases id h2.2 with ⟨rfl, h0⟩ | ⟨g, cap, cur, rfl, hb, hh, k1, k2, k3, k4⟩
  · have : l = [] := List.eq_nil_of_length_eq_zero h0
    subst this
    exact ⟨none, 0, rfl, by simp, by simp [maxLen], fun _ => rfl, fun h => absurd h (by simp)⟩
  · refine ⟨_, cap, rfl, k1, k2, by simp, fun _ => ⟨g, 0, rfl, (Array.getElem?_eq_some_iff.1 hh).1, fun i hi => ⟨css[i]'(by omega), fun j u hj => ?_, h4 i hi (by omega)⟩⟩⟩
    have h5 := flatten_at h3 i (by omega) j u hj
    have := h2.cells (g := g) rfl _ _ h5
    rw [Go.WideShapes.add_plain] at this
    rw [← this]
    congr 2
    omega
/-- a number's two cells, its words of one's own -/
def IoQ (B : Nat) (w : World) (c : List Value) (z : Int) : Prop := ∃ s, c = [.bool (decide (z < 0)), s] ∧ IntOwn w B (.agg #[.bool (decide (z < 0)), s]) z
theorem IoQ.off {B : Nat} {w w' : World} {c : List Value} {z : Int} (h : IoQ B w c z) {Ts : List TypeId} (hf : OffT Ts w w') (he : 54 ∉ Ts) : IoQ B w' c z := by
  obtain ⟨s, e, h⟩ := h
  exact ⟨s, e, hf.own h he⟩
theorem IoQ.mono {B B' : Nat} {w : World} {c : List Value} {z : Int} (h : IoQ B w c z) (hB : B' ≤ B) : IoQ B' w c z := by
  obtain ⟨s, e, h⟩ := h
  exact ⟨s, e, h.mono hB⟩
end Go.Proofs.YtjfehknilofdjaaGreat
/- whole.trimHalves: what is left is the digits without the noughts at the end. -/
namespace Go.Proofs.YtjfehknilofdjaaGreat
open Go.RowKit Big

set_option maxHeartbeats 400000 in
theorem htrim_val (v : Value) (l : List Nat) (w : World) (h : At w .u32 v l) :
    Calls Tryz.prog 91 #[v] w (fun e w' => e = .returned (cutTo v (strip l).length) ∧ w' = w) := by
  obtain ⟨p, cap, rfl, h1, h2, h3, h4⟩ := h
  unfold maxLen at h2
  go_enter Tryz.func91, Tryz.ntmps91
  go_wp2
  go_loop [0] (fun s => ∃ k : Nat, k ≤ l.length ∧ s = .slice p k cap ∧ strip (l.take k) = strip l) (fun s => lenOf s)
  case atStart => exact ⟨l.length, Nat.le_refl _, rfl, by rw [List.take_length]⟩
  case round =>
    obtain ⟨k, hk, rfl, hs⟩ := hrel
    have Hs := hid hs; clear hs
    by_cases hk0 : 0 < k
    · obtain ⟨b, off, rfl, hb, hc⟩ := h4 (by omega)
      have hck : w.cell? ⟨b, off + (k - 1), none⟩ = some (.int .u32 (l[k-1]'(by omega) : Nat)) := hc (k - 1) (by omega)
      clear hc h4
      go_wp2
      · go_round
        case rel =>
          have hz : ((l[k-1]'(by omega) : Nat) == 0) = true := by simpa using ‹((l[k-1]'(by omega) : Nat) == (0 : Int)) = true›
          refine ⟨k - 1, by omega, rfl, ?_⟩
          rw [← Hs.out, ← strip_take (k := k - 1) (by omega) (by simpa using hz), Nat.sub_add_cancel hk0]
        case measure => simp [lenOf]; omega
      · have hz : ¬ (l[k-1]'(by omega) : Nat) = 0 := by
          have := ‹((l[k-1]'(by omega) : Nat) == (0 : Int)) = false›
          simpa using this
        have hs := strip_take_ne (l := l) (k := k - 1) (by omega) hz
        rw [Nat.sub_add_cancel hk0, Hs.out] at hs
        go_ret
        exact ⟨by rw [hs, List.length_take, Nat.min_eq_left hk]; rfl, rfl⟩
    · obtain rfl : k = 0 := by omega
      have hs : Hid (strip l = []) := by rw [← Hs.out]; rfl
      go_wp2
      go_ret
      exact ⟨by rw [hs.out]; rfl, rfl⟩
end Go.Proofs.YtjfehknilofdjaaGreat
/- whole.split: words as halves of words. -/
namespace Go.Proofs.YtjfehknilofdjaaGreat
open Go.RowKit Big

theorem At.twoI (w : World) (k : IntKind) (e e' : Int) (x y : Nat) (t : TypeId) (h : e = (x : Int)) (h' : e' = (y : Int)) : At (w.alloc (.cells #[.int k e, .int k e'] t)) k (.slice (some ⟨w.heap.size, 0, none⟩) 2 2) [x, y] := by
  subst h; subst h'
  refine ⟨_, 2, rfl, by simp, by simp [maxLen], fun h => (by cases h), fun _ => ⟨_, _, rfl, by simp, fun i hi => ?_⟩⟩
  have hh := heap_alloc_new w (.cells #[.int k (x : Nat), .int k (y : Nat)] t)
  rcases (by simp at hi; omega : i = 0 ∨ i = 1) with rfl | rfl
  · exact (two_cells hh).1
  · exact (two_cells hh).2.1

theorem split_step {L l : List Nat} {k x : Nat} {hk : k < l.length} (hL : L.length = 2 * k) (hx : x = l[k]) (hv : val H L = val W (l.take k)) :
    val H (L ++ [x % 4294967296, x / 4294967296]) = val W (l.take (k + 1)) := by
  rw [val_append, val_take_succ W l k hk, hv, hL, ← hx, show H ^ (2 * k) = W ^ k by rw [Nat.pow_mul]; rfl]
  have e : val H [x % 4294967296, x / 4294967296] = x := by simp only [val, H]; omega
  rw [e]

set_option maxRecDepth 100000 in
set_option maxHeartbeats 1600000 in
theorem split_any (v : Value) (l : List Nat) (w : World) (h : At w .u64 v l) (hs : Small W l) (hlen : l.length ≤ 1099511627776) :
    Calls Tryz.prog 75 #[v] w (ROwn 109 .u32 (dig H (val W l)) w) := by
  obtain ⟨p, cap, rfl, a1, a2, a3, a4⟩ := h
  unfold maxLen at a2
  go_enter Tryz.func75, Tryz.ntmps75
  go_wp2_with (first
    | (at_make; refine wpList_make_at rfl _ _ 92 rfl elemHalves w.heap.size _ _ _ (2 * l.length) rfl rfl (by first | rfl | omega | (simp; done)) (by omega) (by simp [maxLen]; omega) (Nat.le_refl _) ?_; intro vo w1 ho hb1 hs1 hvo; clear hvo))
  go_loopw [3, 12] (fun o i wr => ∃ (k : Nat) (L : List Nat), k ≤ l.length ∧ i = .int .i64 (k : Nat) ∧ Own wr w.heap.size 109 .u32 o L ∧ Hid (L.length = 2 * k) ∧ Small H L ∧
      Hid (val H L = val W (l.take k)) ∧ Below w.heap.size w wr) (fun _ i _ => l.length - (intOf i).toNat)
  case atStart => exact ⟨0, [], Nat.zero_le _, rfl, ho, rfl, small_nil _, rfl, hb1⟩
  case round =>
    obtain ⟨k, L, hk, rfl, hown, hLk, hsl, hv, hbel⟩ := hrel
    by_cases hkl : k < l.length
    · obtain ⟨b, off, rfl, hbb, hcell⟩ := a4 (by omega)
      have e0 : wr.cell? ⟨b, off + k, none⟩ = some (.int .u64 (l[k] : Nat)) := (hbel.cell (p := ⟨b, off + k, none⟩) hbb).trans (hcell k hkl)
      have x0 := small_get hs k hkl
      obtain ⟨x, hx⟩ : ∃ x, x = l[k] := ⟨_, rfl⟩
      rw [← hx] at e0 x0
      have Hx := hid hx; clear hx hcell a4
      unfold W at x0
      go_wp2_with (at_builtin; refine wpList_append_at rfl _ _ 92 rfl elemHalves w.heap.size _ L rfl (hown.alloc _) _ [x % 4294967296, x / 4294967296] rfl (At.twoI _ _ _ _ _ _ _ (by first | rfl | omega) (by first | rfl | omega)) (by rw [hLk.out]; simp [maxLen]; omega) (by rw [hLk.out]; simp; omega) (by have := hbel.size; simp; omega) ?_; intro v2 w2 ho2 hb2 hs2)
      go_roundw
      case rel => exact ⟨k + 1, L ++ [x % 4294967296, x / 4294967296], by omega, by go_num, ho2, by have := hLk.out; unfold Hid; simp; omega,
        small_append hsl (small_cons (Nat.mod_lt _ (by decide)) (small_cons (by unfold H; omega) (small_nil _))), split_step hLk.out Hx.out hv.out, (hbel.trans ((below1 _ _).mono hbel.size)).trans hb2⟩
      case measure => (simp [intOf] <;> omega)
    · obtain rfl : k = l.length := by omega
      have hv' : Hid (strip L = dig H (val W l)) := by
        have := hv.out
        rw [List.take_length] at this
        unfold Hid
        rw [← this, strip_dig H2 hsl]
      have hst := strip_length L
      clear a4
      have ho' := hown
      obtain ⟨po, co, rfl, -⟩ := id hown.at
      go_wp2_with (go_at_call 91; refine (htrim_val _ L _ hown.at).mono ?_; rintro e w' ⟨rfl, rfl⟩; simp only [cutTo])
      go_ret
      exact ⟨_, rfl, by rw [← hv'.out]; have := ho'.take (strip L).length hst; rwa [← strip_is_take] at this, hbel⟩
end Go.Proofs.YtjfehknilofdjaaGreat
/- whole.divideShort: a quotient by one half, in place. -/
namespace Go.Proofs.YtjfehknilofdjaaGreat
open Go.RowKit Big

theorem Own.shape {w : World} {base : Nat} {e : TypeId} {k : IntKind} {v : Value} {l : List Nat} (h : Own w base e k v l) (hl : 0 < l.length) :
    ∃ g cap, v = .slice (some ⟨g, 0, none⟩) l.length cap ∧ base ≤ g ∧ g < w.heap.size ∧ l.length ≤ cap ∧ cap ≤ maxLen := by
  rcases h.2 with ⟨_, h0⟩ | ⟨g, cap, cur, hv, h1, h2, h3, h4, _⟩
  · omega
  · exact ⟨g, cap, hv, h1, (Array.getElem?_eq_some_iff.1 h2).1, h3, h4⟩
theorem Own.cell {w : World} {base : Nat} {e : TypeId} {k : IntKind} {g n cap : Nat} {l : List Nat} (h : Own w base e k (.slice (some ⟨g, 0, none⟩) n cap) l) (j : Nat) (hj : j < l.length) :
    w.cell? ⟨g, j, none⟩ = some (.int k (l[j] : Nat)) ∧ w.frozen? ⟨g, j, none⟩ = false := by
  have hn : n = l.length := by
    rcases h.2 with ⟨h1, _⟩ | ⟨g, cap, cur, hv, _⟩
    · cases h1
    · cases hv; rfl
  subst hn
  refine ⟨?_, World.ownsRow.frozenAt h j⟩
  rw [World.ownsRow.cellAt h j (by omega)]
  simp [ints, hj]
/-- a store into an owned row -/
theorem Own.set {w : World} {base : Nat} {e : TypeId} {k : IntKind} {g n cap : Nat} {l : List Nat} (h : Own w base e k (.slice (some ⟨g, 0, none⟩) n cap) l) (j x : Nat) :
    Own (w.setCell ⟨g, j, none⟩ (.int k (x : Nat))) base e k (.slice (some ⟨g, 0, none⟩) n cap) (l.set j x) ∧ w.grownBy (w.setCell ⟨g, j, none⟩ (.int k (x : Nat))) (some g) := by
  have hn : n = l.length := by
    rcases h.2 with ⟨h1, _⟩ | ⟨g, cap, cur, hv, _⟩
    · cases h1
    · cases hv; rfl
  subst hn
  have hs := World.ownsRow.stored h j (.int k (x : Nat))
  refine ⟨?_, hs.2⟩
  unfold Own
  rw [List.length_set]
  have e1 : ints k (l.set j x) = (ints k l).set j (.int k (x : Nat)) := by simp [ints, List.map_set]
  rw [e1]; exact hs.1

theorem grown_trans {a b c : World} {row : Option Nat} (h : a.grownBy b row) (k : b.grownBy c row) : a.grownBy c row :=
  ⟨k.os.trans h.os, k.tape.trans h.tape, k.output.trans h.output, Nat.le_trans h.size k.size, fun i hi hne => (k.block i (Nat.lt_of_lt_of_le hi h.size) hne).trans (h.block i hi hne)⟩

theorem or_half (a b : Nat) (ha : a < 4294967296) (hb : b < 4294967296) : bits BinOp.or IntKind.u64 ((a : Int) * 4294967296) (b : Int) = ((a * 4294967296 + b : Nat) : Int) := by
  have h := u64_or_nat (a * 4294967296) b (by omega) (by omega)
  rw [Int.natCast_mul] at h
  rw [show ((a : Int) * 4294967296) = (a : Int) * ((4294967296 : Nat) : Int) by rfl, h]
  have e := Nat.two_pow_add_eq_or_of_lt (i := 32) (b := b) (by simpa using hb) a
  rw [show (2 : Nat) ^ 32 = 4294967296 by rfl, Nat.mul_comm] at e
  rw [← e]
theorem wrap_nat (n : Nat) (h : n < W) : IntKind.u64.wrap (n : Int) = (n : Int) := by
  unfold W at h
  simp only [IntKind.wrap, IntKind.bits, IntKind.signed]
  simp
  omega
theorem set_take {l Q : List Nat} {k : Nat} (hk : k < l.length) (x : Nat) : (l.take (k + 1) ++ Q).set k x = l.take k ++ x :: Q := by
  rw [take_succ' l k hk, List.append_assoc, List.set_append_right _ _ (by simp; omega)]
  have : k - (l.take k).length = 0 := by simp; omega
  rw [this]; rfl
theorem divShort_step {l Q : List Nat} {k x rest d P : Nat} {hk : k < l.length} (hx : x = l[k]) (hP : P = rest * 4294967296 + x)
    (hv : val H l = val H (l.take (k + 1)) + H ^ (k + 1) * (d * val H Q + rest)) : val H l = val H (l.take k) + H ^ k * (d * val H (P / d :: Q) + P % d) := by
  rw [hv, val_take_succ H l k hk, ← hx, Nat.pow_succ, val_cons]
  have e : P = d * (P / d) + P % d := (Nat.div_add_mod P d).symm
  have e2 : d * (P / d) + P % d = rest * H + x := by rw [← e, hP]; rfl
  generalize P / d = q at *
  generalize P % d = r at *
  have : H ^ k * (d * (q + H * val H Q) + r) = H ^ k * (rest * H + x) + H ^ k * (d * (H * val H Q)) := by rw [← e2]; grind
  rw [this]; grind
theorem div_lt_half {P d rest x : Nat} (hP : P = rest * 4294967296 + x) (hr : rest < d) (hx : x < 4294967296) : P / d < 4294967296 := by
  rw [Nat.div_lt_iff_lt_mul (by omega)]
  have : (rest + 1) * 4294967296 ≤ d * 4294967296 := Nat.mul_le_mul_right _ hr
  rw [Nat.mul_comm 4294967296 d]
  omega

set_option maxRecDepth 100000 in
set_option maxHeartbeats 1600000 in
theorem divideShort_any (B : Nat) (v : Value) (l : List Nat) (d : Nat) (w : World) (h : Own w B 109 .u32 v l) (hs : Small H l) (hd0 : 0 < d) (hd : d < H) :
    Calls Tryz.prog 92 #[v, .int .u32 (d : Nat)] w (fun e w' => e = .returned (.tuple #[cutTo v (sz H (val H l / d)), .int .u32 (val H l % d : Nat)]) ∧
      Own w' B 109 .u32 (cutTo v (sz H (val H l / d))) (dig H (val H l / d)) ∧ w.grownBy w' v.ownBlock) := by
  by_cases hl : 0 < l.length
  · obtain ⟨g, cap, rfl, hBg, hg, hc1, hc2⟩ := h.shape hl
    unfold maxLen at hc2
    unfold H at hd
    go_enter Tryz.func92, Tryz.ntmps92
    go_wp2_with fail
    go_loopw [6, 7] (fun r i wr => ∃ (k rest : Nat) (Q : List Nat), k ≤ l.length ∧ i = .int .i64 ((k : Int) - 1) ∧ r = .int .u64 (rest : Nat) ∧ rest < d ∧ Hid (k + Q.length = l.length) ∧ Small H Q ∧
        Own wr B 109 .u32 (.slice (some ⟨g, 0, none⟩) l.length cap) (l.take k ++ Q) ∧ Hid (val H l = val H (l.take k) + H ^ k * (d * val H Q + rest)) ∧ w.grownBy wr (some g)) (fun _ i _ => (intOf i + 1).toNat)
    case atStart => exact ⟨l.length, 0, [], Nat.le_refl _, rfl, rfl, hd0, rfl, small_nil _, by simpa using h, by unfold Hid; simp [val], World.grownBy.refl _ _⟩
    case round =>
      obtain ⟨k, rest, Q, hk, rfl, rfl, hr, hQ, hsQ, hown, hv, hgr⟩ := hrel
      by_cases hk0 : 0 < k
      · obtain ⟨k, rfl⟩ : ∃ k', k = k' + 1 := ⟨k - 1, by omega⟩
        have hkl : k < (l.take (k + 1) ++ Q).length := by simp; omega
        obtain ⟨c0, f0⟩ := hown.cell k hkl
        have ex : (l.take (k + 1) ++ Q)[k] = l[k]'(by omega) := by rw [List.getElem_append_left (by simp; omega), List.getElem_take]
        have x0 := small_get hs k (by omega)
        rw [ex] at c0
        obtain ⟨x, hx⟩ : ∃ x, x = l[k]'(by omega) := ⟨_, rfl⟩
        rw [← hx] at c0 x0
        have Hx := hid hx
        unfold H at x0
        clear hx ex
        go_wp2
        obtain ⟨P, hP⟩ : ∃ P, P = rest * 4294967296 + x := ⟨_, rfl⟩
        have hor := or_half rest x (by omega) x0
        rw [← hP] at hor
        have q0 := div_lt_half hP hr x0
        have r0 : P % d < d := Nat.mod_lt _ hd0
        have hm : (bits BinOp.or IntKind.u64 ((rest : Int) * 4294967296) (x : Int)).tmod (d : Int) = ((P % d : Nat) : Int) := by rw [hor]; rfl
        have hd' : IntKind.u64.wrap ((bits BinOp.or IntKind.u64 ((rest : Int) * 4294967296) (x : Int)).tdiv (d : Int)) % 4294967296 = ((P / d : Nat) : Int) := by
          rw [hor, show ((P : Nat) : Int).tdiv (d : Int) = ((P / d : Nat) : Int) from rfl, wrap_nat _ (by unfold W; omega)]
          generalize P / d = qq at *
          omega
        have HP := hid hP
        clear hP hor
        obtain ⟨q, hq⟩ : ∃ q, q = P / d := ⟨_, rfl⟩
        obtain ⟨r, hr'⟩ : ∃ r, r = P % d := ⟨_, rfl⟩
        rw [← hq] at q0 hd'
        rw [← hr'] at r0 hm
        have Hq := hid hq; have Hr := hid hr'; have Hm := hid hm; have Hd := hid hd'
        clear hq hr' hm hd'
        go_wp2
        rw [Hm.out, Hd.out]
        have hset := hown.set k q
        have hlist := set_take (Q := Q) (show k < l.length by omega) q
        rw [hlist] at hset
        go_roundw
        case rel => exact ⟨k, r, q :: Q, by omega, rfl, rfl, r0, by have := hQ.out; unfold Hid; simp; omega, small_cons q0 hsQ, hset.1,
          by have := divShort_step (hk := by omega) Hx.out HP.out hv.out; rw [← Hq.out, ← Hr.out] at this; exact this, grown_trans hgr hset.2⟩
        case measure => (simp [intOf] <;> omega)
      · obtain rfl : k = 0 := by omega
        have hv' : val H l = d * val H Q + rest := by have := hv.out; simpa [val] using this
        have e1 : val H l / d = val H Q := by
          rw [hv', Nat.mul_add_div hd0, Nat.div_eq_of_lt hr, Nat.add_zero]
        have e2 : val H l % d = rest := by rw [hv', Nat.mul_add_mod, Nat.mod_eq_of_lt hr]
        rw [List.take_zero, List.nil_append] at hown
        have hst : Hid (strip Q = dig H (val H l / d)) := by unfold Hid; rw [e1, strip_dig H2 hsQ]
        have hsz : Hid ((strip Q).length = sz H (val H l / d)) := by unfold Hid sz; rw [hst.out]
        have E2 := hid e2
        have ht := htrim_val _ Q wr hown.at
        have Ht := hid ht
        have hstl := strip_length Q
        clear e1 e2 hv' hv ht
        have hrest : rest < 4294967296 := by omega
        go_wp2_with (go_at_call 91; refine Ht.out.mono ?_; rintro e w' ⟨rfl, rfl⟩; simp only [cutTo])
        go_ret2
        refine ⟨?_, ?_, hgr⟩
        · rw [← hsz.out, E2.out]; rfl
        · rw [← hsz.out, ← hst.out]
          have := hown.take (strip Q).length hstl
          rwa [← strip_is_take] at this
  · have hl0 : l = [] := List.eq_nil_of_length_eq_zero (by omega)
    subst hl0
    have ho := hid h
    obtain ⟨p, c, rfl, b1, b2, b3, -⟩ := h.at
    have ht := htrim_val _ [] w h.at
    have Ht := hid ht
    clear ht h
    have hstrip : (strip []).length = 0 := rfl
    rw [hstrip] at Ht
    clear hstrip
    simp only [List.length_nil] at *
    go_enter Tryz.func92, Tryz.ntmps92
    go_wp2_with fail
    refine wp_loop_rounds 1 ?_
    rw [rounds_succ]
    go_wp2_with (go_at_call 91; refine Ht.out.mono ?_; rintro e w' ⟨rfl, rfl⟩; simp only [cutTo])
    go_ret2
    have e1 : val H [] / d = 0 := by simp [val]
    have e2 : val H [] % d = 0 := by simp [val]
    refine ⟨?_, ?_, World.grownBy.refl _ _⟩
    · rw [e1, e2]; rfl
    · rw [e1]; exact ho.out
end Go.Proofs.YtjfehknilofdjaaGreat
/- whole.join: halves of words as words. -/
namespace Go.Proofs.YtjfehknilofdjaaGreat
open Go.RowKit Big

theorem half_or (a b : Nat) (ha : a < 4294967296) (hb : b < 4294967296) : bits BinOp.or IntKind.u64 (b : Int) ((a : Int) * 4294967296) = ((a * 4294967296 + b : Nat) : Int) := by
  have h := u64_or_nat b (a * 4294967296) (by omega) (by omega)
  rw [Int.natCast_mul] at h
  rw [show ((a : Int) * 4294967296) = (a : Int) * ((4294967296 : Nat) : Int) by rfl, h]
  have e := Nat.two_pow_add_eq_or_of_lt (i := 32) (b := b) (by simpa using hb) a
  rw [show (2 : Nat) ^ 32 = 4294967296 by rfl, Nat.mul_comm] at e
  rw [e, Nat.or_comm]

theorem join_step {L l : List Nat} {j x y : Nat} (hL : L.length = j) (hx : x = l[2 * j]?.getD 0) (hy : y = l[2 * j + 1]?.getD 0) (hv : val W L = val H (l.take (2 * j))) :
    val W (L ++ [y * 4294967296 + x]) = val H (l.take (2 * j + 2)) := by
  rw [show 2 * j + 2 = 2 * j + 1 + 1 by rfl, val_take_getD, val_take_getD, val_snoc, hv, hL, ← hx, ← hy, Nat.pow_succ, show H ^ (2 * j) = W ^ j by rw [Nat.pow_mul]; rfl]
  have : W ^ j * (y * 4294967296 + x) = W ^ j * x + W ^ j * H * y := by unfold H; grind
  rw [this]; omega

set_option maxRecDepth 100000 in
set_option maxHeartbeats 1600000 in
theorem join_any (v : Value) (n : Nat) (w : World) (h : At w .u32 v (dig H n)) (hlen : sz H n ≤ 4398046511104) :
    Calls Tryz.prog 73 #[v] w (ROwn 54 .u64 (dig W n) w) := by
  have hs := small_dig H2 n
  have hvn := val_dig H2 n
  have hl : (dig H n).length = sz H n := rfl
  have hp := fun h0 => pow_sz_le H2 (n := n) h0
  have hz : n = 0 → (dig H n).length = 0 := fun e => by rw [e]; rfl
  generalize sz H n = N at *
  generalize dig H n = l at *
  have Hvn := hid hvn; have Hp := hid hp; have Hz := hid hz
  clear hvn hp hz
  obtain ⟨p, cap, rfl, a1, a2, a3, a4⟩ := h
  unfold maxLen at a2
  go_enter Tryz.func73, Tryz.ntmps73
  go_wp2_with (first
    | (at_make; refine wpList_make_at rfl _ _ 24 rfl elemNat w.heap.size _ _ _ ((l.length + 1) / 2) rfl rfl (by first | rfl | omega | (simp; done)) (by omega) (by simp [maxLen]; omega) (Nat.le_refl _) ?_; intro vo w1 ho hb1 hs1 hvo; clear hvo))
  go_loopw [3, 4] (fun o i wr => ∃ (j k : Nat) (L : List Nat), Hid (k = 2 * j) ∧ k ≤ l.length + 1 ∧ i = .int .i64 (k : Nat) ∧ Own wr w.heap.size 54 .u64 o L ∧ Hid (L.length = j) ∧ j ≤ k ∧ Small W L ∧
      Hid (val W L = val H (l.take k)) ∧ Below w.heap.size w wr) (fun _ i _ => l.length + 2 - (intOf i).toNat)
  case atStart => exact ⟨0, 0, [], rfl, by omega, rfl, ho, rfl, by omega, small_nil _, rfl, hb1⟩
  case round =>
    obtain ⟨j, k, L, hkj, hk, rfl, hown, hLj, hjk, hsl, hv, hbel⟩ := hrel
    by_cases hkl : k < l.length
    · obtain ⟨b, off, rfl, hbb, hcell⟩ := a4 (by omega)
      have e0 : wr.cell? ⟨b, off + k, none⟩ = some (.int .u32 (l[k] : Nat)) := (hbel.cell (p := ⟨b, off + k, none⟩) hbb).trans (hcell k hkl)
      have x0 := small_get hs k hkl
      obtain ⟨x, hx⟩ : ∃ x, x = l[k] := ⟨_, rfl⟩
      rw [← hx] at e0 x0
      have Hx : Hid (x = l[2 * j]?.getD 0) := by unfold Hid; rw [← hkj.out]; simp [hkl, hx]
      clear hx
      unfold H at x0
      by_cases hk1 : k + 1 < l.length
      · have e1 : wr.cell? ⟨b, off + (k + 1), none⟩ = some (.int .u32 (l[k + 1] : Nat)) := (hbel.cell (p := ⟨b, off + (k + 1), none⟩) hbb).trans (hcell (k + 1) hk1)
        have y0 := small_get hs (k + 1) hk1
        obtain ⟨y, hy⟩ : ∃ y, y = l[k + 1] := ⟨_, rfl⟩
        rw [← hy] at e1 y0
        have Hy : Hid (y = l[2 * j + 1]?.getD 0) := by unfold Hid; rw [← hkj.out]; simp [hk1, hy]
        clear hy hcell a4
        unfold H at y0
        have hor := half_or y x y0 x0
        go_wp2_with (at_builtin; refine wpList_append_at rfl _ _ 24 rfl elemNat w.heap.size _ L rfl (hown.alloc _) _ [y * 4294967296 + x] rfl (At.oneI _ _ _ _ _ (by first | exact hor | (rw [hor]; done) | omega)) (by rw [hLj.out]; simp [maxLen]; omega) (by rw [hLj.out]; simp; omega) (by have := hbel.size; simp; omega) ?_; intro v2 w2 ho2 hb2 hs2)
        go_roundw
        case rel => exact ⟨j + 1, k + 2, L ++ [y * 4294967296 + x], by have := hkj.out; unfold Hid; omega, by omega, by go_num, ho2, by have := hLj.out; unfold Hid; simp; omega, by omega, small_snoc hsl (by unfold W; omega),
          by have := join_step hLj.out Hx.out Hy.out (by rw [← hkj.out]; exact hv.out); rw [← hkj.out] at this; exact this, (hbel.trans ((below1 _ _).mono hbel.size)).trans hb2⟩
        case measure => (simp [intOf] <;> omega)
      · have Hy : Hid (0 = l[2 * j + 1]?.getD 0) := by unfold Hid; rw [← hkj.out, List.getElem?_eq_none (by omega)]; rfl
        clear hcell a4
        go_wp2_with (at_builtin; refine wpList_append_at rfl _ _ 24 rfl elemNat w.heap.size _ L rfl (hown.alloc _) _ [0 * 4294967296 + x] rfl (At.oneI _ _ _ _ _ (by omega)) (by rw [hLj.out]; simp [maxLen]; omega) (by rw [hLj.out]; simp; omega) (by have := hbel.size; simp; omega) ?_; intro v2 w2 ho2 hb2 hs2)
        go_roundw
        case rel => exact ⟨j + 1, k + 2, L ++ [0 * 4294967296 + x], by have := hkj.out; unfold Hid; omega, by omega, by go_num, ho2, by have := hLj.out; unfold Hid; simp; omega, by omega, small_snoc hsl (by unfold W; omega),
          by have := join_step hLj.out Hx.out Hy.out (by rw [← hkj.out]; exact hv.out); rw [← hkj.out] at this; exact this, (hbel.trans ((below1 _ _).mono hbel.size)).trans hb2⟩
        case measure => (simp [intOf] <;> omega)
    · have hv' : Hid (L = dig W n) := by
        have e := hv.out
        rw [val_take_ge _ _ _ (by omega), Hvn.out] at e
        unfold Hid
        refine canon_val W2 hsl e ?_
        by_cases hj0 : j = 0
        · left; exact List.eq_nil_of_length_eq_zero (by rw [hLj.out, hj0])
        · right
          have hpos : 0 < n := by
            rcases Nat.eq_zero_or_pos n with h0 | h0
            · exfalso
              have := hkj.out
              have := Hz.out h0
              omega
            · exact h0
          have hp := Hp.out hpos
          rw [hLj.out]
          refine Nat.le_trans ?_ hp
          rw [show W ^ (j - 1) = H ^ (2 * (j - 1)) by rw [Nat.pow_mul]; rfl]
          exact Nat.pow_le_pow_right (by decide) (by have := hkj.out; omega)
      clear a4 hkj hv Hp Hvn
      go_wp2
      go_ret
      exact ⟨_, rfl, by rw [← hv'.out]; exact hown, hbel⟩
end Go.Proofs.YtjfehknilofdjaaGreat
/- whole.timesPlus: halves so many times as great, and more, in place. -/
namespace Go.Proofs.YtjfehknilofdjaaGreat
open Go.RowKit Big

end Go.Proofs.YtjfehknilofdjaaGreat
/- whole.timesHalves: products of halves of words. -/
namespace Go.Proofs.YtjfehknilofdjaaGreat
open Go.RowKit Big

theorem val_set (B : Nat) : ∀ (l : List Nat) (k x : Nat) (h : k < l.length), val B (l.set k x) + B ^ k * l[k] = val B l + B ^ k * x
  | [], k, x, h => absurd h (by simp)
  | y :: l, 0, x, _ => by simp [val]; omega
  | y :: l, k + 1, x, h => by
    have ih := val_set B l k x (by simpa using h)
    simp only [List.set_cons_succ, val, List.getElem_cons_succ, Nat.pow_succ]
    have : B * (val B (l.set k x) + B ^ k * l[k]'(by simpa using h)) = B * (val B l + B ^ k * x) := by rw [ih]
    grind
theorem small_set {B : Nat} {l : List Nat} (h : Small B l) (k : Nat) {x : Nat} (hx : x < B) : Small B (l.set k x) := by
  intro y hy
  rcases List.mem_or_eq_of_mem_set hy with h1 | h1
  · exact h y h1
  · rw [h1]; exact hx
/-- one step of a row: the product's digit, what lies there, and the carry -/
theorem times_step {O : List Nat} {k x y c P Va Vb HI HJ : Nat} (hk : k < O.length) (hP : P = x * y + O[k] + c) (hHk : H ^ k = HI * HJ)
    (hv : val H O + c * H ^ k = Va + HI * (x * Vb)) : val H (O.set k (P % 4294967296)) + P / 4294967296 * H ^ (k + 1) = Va + HI * (x * (Vb + HJ * y)) := by
  have h1 := val_set H O k (P % 4294967296) hk
  have e2 : P % 4294967296 + H * (P / 4294967296) = x * y + O[k] + c := by rw [← hP]; unfold H; omega
  rw [Nat.pow_succ]
  generalize val H (O.set k (P % 4294967296)) = V' at *
  generalize O[k] = o at *
  generalize P % 4294967296 = r at *
  generalize P / 4294967296 = q at *
  have e3 : H ^ k * (r + H * q) = H ^ k * (x * y + o + c) := by rw [e2]
  have e4 : V' + H ^ k * o + q * (H ^ k * H) = Va + HI * (x * Vb) + H ^ k * (x * y) + H ^ k * o := by grind
  rw [hHk] at e4 ⊢
  grind
theorem mulsum_lt {x y o c : Nat} (hx : x < 4294967296) (hy : y < 4294967296) (ho : o < 4294967296) (hc : c < 4294967296) :
    x * y ≤ 18446744065119617025 ∧ x * y + o + c < 18446744073709551616 ∧ (x * y + o + c) / 4294967296 < 4294967296 := by
  have h : x * y ≤ 4294967295 * 4294967295 := Nat.mul_le_mul (by omega) (by omega)
  omega
end Go.Proofs.YtjfehknilofdjaaGreat
/- whole.timesHalves: the walk. -/
namespace Go.Proofs.YtjfehknilofdjaaGreat
open Go.RowKit Big

theorem val_zeros (B n : Nat) : val B (List.replicate n 0) = 0 := by
  induction n with
  | zero => rfl
  | succ n ih => rw [List.replicate_succ, val_cons, ih]; simp
theorem small_zeros {B : Nat} (hB : 0 < B) (n : Nat) : Small B (List.replicate n 0) := fun x hx => by rw [List.eq_of_mem_replicate hx]; exact hB

set_option maxRecDepth 100000 in
set_option maxHeartbeats 3200000 in
theorem timesHalves_any (v0 v1 : Value) (l0 l1 : List Nat) (w : World) (h0 : At w .u32 v0 l0) (h1 : At w .u32 v1 l1) (s0 : Small H l0) (s1 : Small H l1)
    (hl0 : l0.length ≤ 4398046511104) (hl1 : l1.length ≤ 4398046511104) : Calls Tryz.prog 74 #[v0, v1] w (ROwn 109 .u32 (dig H (val H l0 * val H l1)) w) := by
  obtain ⟨p0, c0, rfl, a1, a2, a3, a4⟩ := h0
  obtain ⟨p1, c1, rfl, b1, b2, b3, b4⟩ := h1
  unfold maxLen at a2 b2
  go_enter Tryz.func74, Tryz.ntmps74
  go_wp2_with (first
    | (at_make; refine wpList_full_at rfl _ _ 92 rfl elemHalves w.heap.size _ _ _ _ (l0.length + l1.length) rfl rfl (by first | rfl | omega | (simp; done)) (by first | rfl | omega | (simp; done)) (by omega) (by simp [maxLen]; omega) (Nat.le_refl _) ?_; intro vo w1 ho hb1 hs1 hvo; subst hvo))
  go_loopw [20] (fun i wr => ∃ (k : Nat) (O : List Nat), k ≤ l0.length ∧ i = .int .i64 (k : Nat) ∧ Own wr w.heap.size 109 .u32 (.slice (some ⟨w.heap.size, 0, none⟩) (l0.length + l1.length) (l0.length + l1.length)) O ∧ Hid (O.length = l0.length + l1.length) ∧ Small H O ∧
      Hid (∀ j, k + l1.length ≤ j → O[j]?.getD 0 = 0) ∧ Hid (val H O = val H (l0.take k) * val H l1) ∧ Below w.heap.size w wr ∧ w.heap.size ≤ wr.heap.size) (fun i _ => l0.length - (intOf i).toNat)
  case atStart => exact ⟨0, List.replicate (l0.length + l1.length) 0, Nat.zero_le _, rfl, ho, by simp [Hid], small_zeros (by decide) _, by unfold Hid; intro j _; simp [List.getElem?_replicate]; split <;> rfl, by unfold Hid; simp [val_zeros, val], hb1, hs1⟩
  case round =>
    obtain ⟨k, O, hk, rfl, hown, hO, hsO, hz, hv, hbel, hsz⟩ := hrel
    by_cases hkl : k < l0.length
    · obtain ⟨b, off, rfl, hbb, hcell⟩ := a4 (by omega)
      have e0 : wr.cell? ⟨b, off + k, none⟩ = some (.int .u32 (l0[k] : Nat)) := (hbel.cell (p := ⟨b, off + k, none⟩) hbb).trans (hcell k hkl)
      have x0 := small_get s0 k hkl
      obtain ⟨x, hx⟩ : ∃ x, x = l0[k] := ⟨_, rfl⟩
      rw [← hx] at e0 x0
      have Hx := hid hx; clear hx hcell a4
      unfold H at x0
      go_wp2_with fail
      go_loopw [8, 27] (fun c j wq => ∃ (i c' : Nat) (Q : List Nat), i ≤ l1.length ∧ j = .int .i64 (i : Nat) ∧ c = .int .u64 (c' : Nat) ∧ c' < 4294967296 ∧ Own wq w.heap.size 109 .u32 (.slice (some ⟨w.heap.size, 0, none⟩) (l0.length + l1.length) (l0.length + l1.length)) Q ∧ Hid (Q.length = l0.length + l1.length) ∧ Small H Q ∧
        Hid (∀ j, k + l1.length ≤ j → Q[j]?.getD 0 = 0) ∧ Hid (val H Q + c' * H ^ (k + i) = val H (l0.take k) * val H l1 + H ^ k * (x * val H (l1.take i))) ∧ Below w.heap.size w wq ∧ w.heap.size ≤ wq.heap.size) (fun _ j _ => l1.length - (intOf j).toNat)
      case atStart => exact ⟨0, 0, O, Nat.zero_le _, rfl, rfl, by omega, hown, hO, hsO, hz, by have := hv.out; unfold Hid; simp [val, this], hbel, hsz⟩
      case round =>
        obtain ⟨i, c', Q, hi, rfl, rfl, hc', hown', hQ, hsQ, hzQ, hvQ, hbel', hsz'⟩ := hrel
        by_cases hil : i < l1.length
        · obtain ⟨b', off', rfl, hbb', hcell'⟩ := b4 (by omega)
          have e1 := (hbel'.cell (p := ⟨b', off' + i, none⟩) hbb').trans (hcell' i hil)
          have y0 := small_get s1 i hil
          obtain ⟨y, hy⟩ : ∃ y, y = l1[i] := ⟨_, rfl⟩
          rw [← hy] at e1 y0
          have Hy := hid hy; clear hy hcell' b4
          unfold H at y0
          have hkq : k + i < Q.length := by rw [hQ.out]; omega
          obtain ⟨cc0, f0⟩ := hown'.cell (k + i) hkq
          have o0 := small_get hsQ (k + i) hkq
          obtain ⟨o, ho'⟩ : ∃ o, o = Q[k + i] := ⟨_, rfl⟩
          rw [← ho'] at cc0 o0
          have Ho := hid ho'; clear ho'
          unfold H at o0
          obtain ⟨m1, m2, m3⟩ := mulsum_lt x0 y0 o0 hc'
          obtain ⟨P, hP⟩ : ∃ P, P = x * y + o + c' := ⟨_, rfl⟩
          rw [← hP] at m2 m3
          have q1 : (x : Int) * (y : Int) ≤ 18446744065119617025 := by
            have : ((x * y : Nat) : Int) ≤ 18446744065119617025 := by omega
            rwa [Int.natCast_mul] at this
          have q2 : 0 ≤ (x : Int) * (y : Int) := by rw [← Int.natCast_mul]; omega
          have q3 : (x : Int) * (y : Int) + (o : Int) + (c' : Int) = (P : Int) := by rw [hP]; simp
          have q4 : (x : Int) * (y : Int) + (o : Int) + (c' : Int) ≤ 18446744073709551615 := by rw [q3]; omega
          have HP := hid hP; have Q3 := hid q3
          clear hP q3
          go_wp2
          have r1 : ((x : Int) * (y : Int) + (o : Int) + (c' : Int)) / 4294967296 = ((P / 4294967296 : Nat) : Int) := by rw [Q3.out]; omega
          have r2 : ((x : Int) * (y : Int) + (o : Int) + (c' : Int)) % 4294967296 = ((P % 4294967296 : Nat) : Int) := by rw [Q3.out]; omega
          rw [r1, r2]
          have hset := hown'.set (k + i) (P % 4294967296)
          have hz' : ∀ j, k + l1.length ≤ j → (Q.set (k + i) (P % 4294967296))[j]?.getD 0 = 0 := fun j hj => by
            rw [List.getElem?_set_ne (by omega)]; exact hzQ.out j hj
          have hv' : val H (Q.set (k + i) (P % 4294967296)) + P / 4294967296 * H ^ (k + (i + 1)) = val H (l0.take k) * val H l1 + H ^ k * (x * val H (l1.take (i + 1))) := by
            have := times_step (HI := H ^ k) (HJ := H ^ i) (y := y) hkq (show P = x * y + Q[k + i] + c' by rw [← Ho.out]; exact HP.out) (Nat.pow_add ..) hvQ.out
            rw [val_take_succ H l1 i hil, ← Hy.out]
            exact this
          go_roundw
          case rel => exact ⟨i + 1, P / 4294967296, Q.set (k + i) (P % 4294967296), by omega, by go_num, rfl, m3, hset.1, by unfold Hid; rw [List.length_set]; exact hQ.out, small_set hsQ _ (Nat.mod_lt _ (by decide)), hz', hv',
            hbel'.setCell (p := ⟨w.heap.size, k + i, none⟩) (Nat.le_refl _) _, by simpa [World.setCell] using hsz'⟩
          case measure => (simp [intOf] <;> omega)
        · obtain rfl : i = l1.length := by omega
          have hkq : k + l1.length < Q.length := by rw [hQ.out]; omega
          obtain ⟨cc0, f0⟩ := hown'.cell (k + l1.length) hkq
          have o0 : Q[k + l1.length] = 0 := by have := hzQ.out (k + l1.length) (Nat.le_refl _); simpa [hkq] using this
          have hvs := val_set H Q (k + l1.length) c' hkq
          rw [o0, Nat.mul_zero, Nat.add_zero] at hvs
          have hset := hown'.set (k + l1.length) c'
          have hv' : val H (Q.set (k + l1.length) c') = val H (l0.take (k + 1)) * val H l1 := by
            have := hvQ.out
            rw [List.take_length] at this
            rw [hvs, val_take_succ H l0 k hkl, ← Hx.out, Nat.add_mul, Nat.mul_comm (H ^ (k + l1.length)), this, Nat.mul_assoc]
          have hz' : ∀ j, k + 1 + l1.length ≤ j → (Q.set (k + l1.length) c')[j]?.getD 0 = 0 := fun j hj => by
            rw [List.getElem?_set_ne (by omega)]; exact hzQ.out j (by omega)
          have HV := hid hv'
          clear hvs hv' o0 b4
          have hmod : (c' : Int) % 4294967296 = (c' : Int) := by omega
          go_wp2
          first | rw [hmod] | skip
          go_roundw
          case rel => exact ⟨k + 1, Q.set (k + l1.length) c', by omega, by go_num, hset.1, by unfold Hid; rw [List.length_set]; exact hQ.out, small_set hsQ _ (show c' < 4294967296 from hc'), hz', HV.out,
            hbel'.setCell (p := ⟨w.heap.size, k + l1.length, none⟩) (Nat.le_refl _) _, by simpa [World.setCell] using hsz'⟩
          case measure => (simp [intOf] <;> omega)
    · obtain rfl : k = l0.length := by omega
      have hv' : Hid (strip O = dig H (val H l0 * val H l1)) := by
        have := hv.out
        rw [List.take_length] at this
        unfold Hid
        rw [← this, strip_dig H2 hsO]
      have hst := strip_length O
      have ht := hid (htrim_val _ O wr hown.at)
      clear a4 b4
      go_wp2_with (go_at_call 91; refine ht.out.mono ?_; rintro e w' ⟨rfl, rfl⟩; simp only [cutTo])
      go_ret
      exact ⟨_, rfl, by rw [← hv'.out]; have := hown.take (strip O).length hst; rwa [← strip_is_take] at this, hbel⟩
end Go.Proofs.YtjfehknilofdjaaGreat
/- elenchusref01.trim: what is left is the digits without the noughts at the end. -/
namespace Go.Proofs.YtjfehknilofdjaaGreat
open Go.RowKit Big

set_option maxHeartbeats 400000 in
theorem rtrim_val (v : Value) (l : List Nat) (w : World) (h : At w .i64 v l) :
    Calls Tryz.prog 57 #[v] w (fun e w' => e = .returned (cutTo v (strip l).length) ∧ w' = w) := by
  obtain ⟨p, cap, rfl, h1, h2, h3, h4⟩ := h
  unfold maxLen at h2
  go_enter Tryz.func57, Tryz.ntmps57
  go_wp2
  go_loop [0] (fun s => ∃ k : Nat, k ≤ l.length ∧ s = .slice p k cap ∧ strip (l.take k) = strip l) (fun s => lenOf s)
  case atStart => exact ⟨l.length, Nat.le_refl _, rfl, by rw [List.take_length]⟩
  case round =>
    obtain ⟨k, hk, rfl, hs⟩ := hrel
    have Hs := hid hs; clear hs
    by_cases hk0 : 0 < k
    · obtain ⟨b, off, rfl, hb, hc⟩ := h4 (by omega)
      have hck : w.cell? ⟨b, off + (k - 1), none⟩ = some (.int .i64 (l[k-1]'(by omega) : Nat)) := hc (k - 1) (by omega)
      clear hc h4
      go_wp2
      · go_round
        case rel =>
          have hz : ((l[k-1]'(by omega) : Nat) == 0) = true := by simpa using ‹((l[k-1]'(by omega) : Nat) == (0 : Int)) = true›
          refine ⟨k - 1, by omega, rfl, ?_⟩
          rw [← Hs.out, ← strip_take (k := k - 1) (by omega) (by simpa using hz), Nat.sub_add_cancel hk0]
        case measure => simp [lenOf]; omega
      · have hz : ¬ (l[k-1]'(by omega) : Nat) = 0 := by
          have := ‹((l[k-1]'(by omega) : Nat) == (0 : Int)) = false›
          simpa using this
        have hs := strip_take_ne (l := l) (k := k - 1) (by omega) hz
        rw [Nat.sub_add_cancel hk0, Hs.out] at hs
        go_ret
        exact ⟨by rw [hs, List.length_take, Nat.min_eq_left hk]; rfl, rfl⟩
    · obtain rfl : k = 0 := by omega
      have hs : Hid (strip l = []) := by rw [← Hs.out]; rfl
      go_wp2
      go_ret
      exact ⟨by rw [hs.out]; rfl, rfl⟩
theorem rtrim_any (v : Value) (l : List Nat) (w : World) (h : At w .i64 v l) : Calls Tryz.prog 57 #[v] w (RSame .i64 (strip l) w) :=
  (rtrim_val v l w h).mono fun _ _ ⟨he, hw⟩ => ⟨_, he, by subst hw; exact h.strip, hw.symm⟩
end Go.Proofs.YtjfehknilofdjaaGreat
/- elenchusref01.at, Digits. -/
namespace Go.Proofs.YtjfehknilofdjaaGreat
open Go.RowKit Big

set_option maxHeartbeats 400000 in
theorem at_any (v : Value) (l : List Nat) (i : Nat) (w : World) (h : At w .i64 v l) :
    Calls Tryz.prog 58 #[v, .int .i64 (i : Nat)] w fun e w' => e = .returned (.int .i64 (l[i]?.getD 0 : Nat)) ∧ w' = w := by
  obtain ⟨p, cap, rfl, h1, h2, h3, h4⟩ := h
  unfold maxLen at h2
  by_cases hi : i < l.length
  · obtain ⟨b, off, rfl, hb, hc⟩ := h4 (by omega)
    have hck := hc i hi
    have he : Hid (l[i]?.getD 0 = l[i]) := by unfold Hid; simp [hi]
    generalize l[i] = x at *
    clear hc h4
    go_enter Tryz.func58, Tryz.ntmps58
    go_wp2
    go_ret
    exact ⟨by rw [he.out]; rfl, rfl⟩
  · have he : Hid (l[i]?.getD 0 = 0) := by unfold Hid; simp [Nat.le_of_not_lt hi]
    clear h4
    go_enter Tryz.func58, Tryz.ntmps58
    go_wp2
    go_ret
    exact ⟨by rw [he.out]; rfl, rfl⟩

theorem digit_step0 {M : List Nat} {k x V : Nat} (h : M.length = 4 * k + 0) (hv : val D M = V + D ^ (4 * k) * (x % D ^ 0)) : val D (M ++ [x % 65536]) = V + D ^ (4 * k) * (x % D ^ 1) := by
  rw [val_snoc, hv, h, Nat.pow_add]
  have e : x % D ^ 1 = x % D ^ 0 + D ^ 0 * (x % 65536) := by unfold D; omega
  rw [e]; grind
theorem digit_step1 {M : List Nat} {k x V : Nat} (h : M.length = 4 * k + 1) (hv : val D M = V + D ^ (4 * k) * (x % D ^ 1)) : val D (M ++ [x / 65536 % 65536]) = V + D ^ (4 * k) * (x % D ^ 2) := by
  rw [val_snoc, hv, h, Nat.pow_add]
  have e : x % D ^ 2 = x % D ^ 1 + D ^ 1 * (x / 65536 % 65536) := by unfold D; omega
  rw [e]; grind
theorem digit_step2 {M : List Nat} {k x V : Nat} (h : M.length = 4 * k + 2) (hv : val D M = V + D ^ (4 * k) * (x % D ^ 2)) : val D (M ++ [x / 4294967296 % 65536]) = V + D ^ (4 * k) * (x % D ^ 3) := by
  rw [val_snoc, hv, h, Nat.pow_add]
  have e : x % D ^ 3 = x % D ^ 2 + D ^ 2 * (x / 4294967296 % 65536) := by unfold D; omega
  rw [e]; grind
theorem digit_step3 {M : List Nat} {k x V : Nat} (h : M.length = 4 * k + 3) (hv : val D M = V + D ^ (4 * k) * (x % D ^ 3)) : val D (M ++ [x / 281474976710656 % 65536]) = V + D ^ (4 * k) * (x % D ^ 4) := by
  rw [val_snoc, hv, h, Nat.pow_add]
  have e : x % D ^ 4 = x % D ^ 3 + D ^ 3 * (x / 281474976710656 % 65536) := by unfold D; omega
  rw [e]; grind

set_option maxRecDepth 100000 in
set_option maxHeartbeats 1600000 in
theorem Digits_any (v : Value) (l : List Nat) (w : World) (h : At w .u64 v l) (hs : Small W l) (hlen : l.length ≤ 2199023255552) :
    Calls Tryz.prog 39 #[v] w (RAt .i64 (dig D (val W l)) w) := by
  obtain ⟨p, cap, rfl, a1, a2, a3, a4⟩ := h
  unfold maxLen at a2
  go_enter Tryz.func39, Tryz.ntmps39
  go_wp2_with fail
  go_loopw [3, 9] (fun o i wr => ∃ (k : Nat) (L : List Nat), k ≤ l.length ∧ i = .int .i64 (k : Nat) ∧ Own wr w.heap.size 3 .i64 o L ∧ Hid (L.length = 4 * k) ∧ Small D L ∧
      Hid (val D L = val W (l.take k)) ∧ Below w.heap.size w wr) (fun _ i _ => l.length - (intOf i).toNat)
  case atStart => exact ⟨0, [], Nat.zero_le _, rfl, Own.nil _ _ _ _, rfl, small_nil _, rfl, Below.refl _ _⟩
  case round =>
    obtain ⟨k, L, hk, rfl, hown, hLk, hsl, hv, hbel⟩ := hrel
    by_cases hkl : k < l.length
    · obtain ⟨b, off, rfl, hbb, hcell⟩ := a4 (by omega)
      have e0 : wr.cell? ⟨b, off + k, none⟩ = some (.int .u64 (l[k] : Nat)) := (hbel.cell (p := ⟨b, off + k, none⟩) hbb).trans (hcell k hkl)
      have x0 := small_get hs k hkl
      obtain ⟨x, hx⟩ : ∃ x, x = l[k] := ⟨_, rfl⟩
      rw [← hx] at e0 x0
      have Hx := hid hx; clear hx hcell a4
      unfold W at x0
      go_wp2_with fail
      go_loopw [3, 6] (fun o i wq => ∃ (j : Nat) (M : List Nat), j ≤ 4 ∧ i = .int .i64 (j : Nat) ∧ Own wq w.heap.size 3 .i64 o M ∧ Hid (M.length = 4 * k + j) ∧ Small D M ∧
        Hid (val D M = val W (l.take k) + D ^ (4 * k) * (x % D ^ j)) ∧ Below w.heap.size w wq) (fun _ i _ => 4 - (intOf i).toNat)
      case atStart => exact ⟨0, L, Nat.zero_le _, rfl, hown, by unfold Hid at hLk ⊢; omega, hsl, by unfold Hid at hv ⊢; simp [hv, Nat.mod_one], hbel⟩
      case round =>
        obtain ⟨j, M, hj, rfl, hown', hMk, hsM, hvM, hbel'⟩ := hrel
        by_cases hj4 : j < 4
        · rcases (by omega : j = 0 ∨ j = 1 ∨ j = 2 ∨ j = 3) with rfl | rfl | rfl | rfl
          · go_wp2_with (at_builtin; refine wpList_append_at rfl _ _ 60 rfl elemInts w.heap.size _ M rfl (hown'.alloc _) _ [x % 65536] rfl (At.oneI _ _ _ _ _ (by omega)) (by rw [hMk.out]; simp [maxLen]; omega) (by rw [hMk.out]; simp; omega) (by have := hbel'.size; simp; omega) ?_; intro v2 w2 ho2 hb2 hs2)
            go_roundw
            case rel => exact ⟨1, M ++ [x % 65536], by omega, by go_num, ho2, by have := hMk.out; unfold Hid; simp; omega, small_snoc hsM (Nat.mod_lt _ (by decide)),
                digit_step0 hMk.out hvM.out, (hbel'.trans ((below1 _ _).mono hbel'.size)).trans hb2⟩
            case measure => simp [intOf]
          · go_wp2_with (at_builtin; refine wpList_append_at rfl _ _ 60 rfl elemInts w.heap.size _ M rfl (hown'.alloc _) _ [x / 65536 % 65536] rfl (At.oneI _ _ _ _ _ (by omega)) (by rw [hMk.out]; simp [maxLen]; omega) (by rw [hMk.out]; simp; omega) (by have := hbel'.size; simp; omega) ?_; intro v2 w2 ho2 hb2 hs2)
            go_roundw
            case rel => exact ⟨2, M ++ [x / 65536 % 65536], by omega, by go_num, ho2, by have := hMk.out; unfold Hid; simp; omega, small_snoc hsM (Nat.mod_lt _ (by decide)),
                digit_step1 hMk.out hvM.out, (hbel'.trans ((below1 _ _).mono hbel'.size)).trans hb2⟩
            case measure => simp [intOf]
          · go_wp2_with (at_builtin; refine wpList_append_at rfl _ _ 60 rfl elemInts w.heap.size _ M rfl (hown'.alloc _) _ [x / 4294967296 % 65536] rfl (At.oneI _ _ _ _ _ (by omega)) (by rw [hMk.out]; simp [maxLen]; omega) (by rw [hMk.out]; simp; omega) (by have := hbel'.size; simp; omega) ?_; intro v2 w2 ho2 hb2 hs2)
            go_roundw
            case rel => exact ⟨3, M ++ [x / 4294967296 % 65536], by omega, by go_num, ho2, by have := hMk.out; unfold Hid; simp; omega, small_snoc hsM (Nat.mod_lt _ (by decide)),
                digit_step2 hMk.out hvM.out, (hbel'.trans ((below1 _ _).mono hbel'.size)).trans hb2⟩
            case measure => simp [intOf]
          · go_wp2_with (at_builtin; refine wpList_append_at rfl _ _ 60 rfl elemInts w.heap.size _ M rfl (hown'.alloc _) _ [x / 281474976710656 % 65536] rfl (At.oneI _ _ _ _ _ (by omega)) (by rw [hMk.out]; simp [maxLen]; omega) (by rw [hMk.out]; simp; omega) (by have := hbel'.size; simp; omega) ?_; intro v2 w2 ho2 hb2 hs2)
            go_roundw
            case rel => exact ⟨4, M ++ [x / 281474976710656 % 65536], by omega, by go_num, ho2, by have := hMk.out; unfold Hid; simp; omega, small_snoc hsM (Nat.mod_lt _ (by decide)),
                digit_step3 hMk.out hvM.out, (hbel'.trans ((below1 _ _).mono hbel'.size)).trans hb2⟩
            case measure => simp [intOf]
        · obtain rfl : j = 4 := by omega
          have hv4 : Hid (val D M = val W (l.take (k + 1))) := by
            unfold Hid
            rw [hvM.out, val_take_succ W l k hkl, show D ^ (4 * k) = W ^ k by rw [Nat.pow_mul]; rfl, Nat.mod_eq_of_lt (show x < D ^ 4 from x0), Hx.out]
          go_wp2_with fail
          go_roundw
          case rel => exact ⟨k + 1, M, by omega, by go_num, hown', by have := hMk.out; unfold Hid; omega, hsM, hv4, hbel'⟩
          case measure => simp [intOf]; omega
    · obtain rfl : k = l.length := by omega
      have hv' : Hid (strip L = dig D (val W l)) := by
        have := hv.out
        rw [List.take_length] at this
        unfold Hid
        rw [← this, strip_dig D2 hsl]
      clear a4
      go_wp2_with (go_at_call 57; refine (rtrim_any _ L _ hown.at).mono ?_; rintro e w' ⟨v', rfl, hv'', rfl⟩)
      go_ret
      exact ⟨_, rfl, by rw [← hv'.out]; exact hv'', hbel⟩
end Go.Proofs.YtjfehknilofdjaaGreat
/- elenchusref01.From: digits of sixteen bits as words. -/
namespace Go.Proofs.YtjfehknilofdjaaGreat
open Go.RowKit Big

theorem take_next (l : List Nat) (i : Nat) : val D (l.take (i + 4)) = val D (l.take i) + D ^ i * (l[i]?.getD 0 + 65536 * (l[i + 1]?.getD 0 + 65536 * (l[i + 2]?.getD 0 + 65536 * l[i + 3]?.getD 0))) := by
  rw [show i + 4 = i + 3 + 1 by rfl, val_take_getD, show i + 3 = i + 2 + 1 by rfl, val_take_getD, show i + 2 = i + 1 + 1 by rfl, val_take_getD, val_take_getD]
  have h1 : D ^ (i + 1) = D ^ i * 65536 := Nat.pow_succ ..
  have h2 : D ^ (i + 1 + 1) = D ^ i * 65536 * 65536 := by rw [Nat.pow_succ, h1]; rfl
  have h3 : D ^ (i + 1 + 1 + 1) = D ^ i * 65536 * 65536 * 65536 := by rw [Nat.pow_succ, h2]; rfl
  rw [h1, h2, h3]
  grind
theorem from_step {L l : List Nat} {i j x0 x1 x2 x3 : Nat} (hi : i = 4 * j) (hL : L.length = j) (hv : val W L = val D (l.take i))
    (h0 : x0 = l[i]?.getD 0) (h1 : x1 = l[i + 1]?.getD 0) (h2 : x2 = l[i + 2]?.getD 0) (h3 : x3 = l[i + 3]?.getD 0) : val W (L ++ [((x3 * 65536 + x2) * 65536 + x1) * 65536 + x0]) = val D (l.take (i + 4)) := by
  rw [take_next, val_snoc, hv, hL, h0, h1, h2, h3, hi, show D ^ (4 * j) = W ^ j by rw [Nat.pow_mul]; rfl]
  grind

theorem num_eq {k : IntKind} {a b : Int} (h : a = b) : Value.int k a = Value.int k b := by rw [h]

/-- what has been put together of four digits -/
def acc (x0 x1 x2 x3 : Nat) : Nat → Nat
  | 0 => ((x3 * 65536 + x2) * 65536 + x1) * 65536 + x0
  | 1 => (x3 * 65536 + x2) * 65536 + x1
  | 2 => x3 * 65536 + x2
  | 3 => x3
  | _ => 0

set_option maxRecDepth 100000 in
set_option maxHeartbeats 3200000 in
theorem From_any (v : Value) (l : List Nat) (w : World) (h : At w .i64 v l) (hs : Small D l) (hlen : l.length ≤ 8796093022208) :
    Calls Tryz.prog 37 #[v] w (RAt .u64 (dig W (val D l)) w) := by
  have hv0 : val D (strip l) = val D l := by rw [strip_dig D2 hs, val_dig D2]
  have hs' : Small D (strip l) := by rw [strip_dig D2 hs]; exact small_dig D2 _
  have hl' : (strip l).length ≤ 8796093022208 := Nat.le_trans (strip_length l) hlen
  have hlast : strip l = dig D (val D l) := strip_dig D2 hs
  have G := hid (rtrim_any v l w h)
  rw [← hv0] at hlast ⊢
  clear h hlen hs hv0
  generalize strip l = l' at *
  have Hl := hid hlast; clear hlast
  go_enter Tryz.func37, Tryz.ntmps37
  go_wp2_with fail
  refine G.out.mono ?_
  rintro e w' ⟨v', rfl, ⟨p, cap, rfl, a1, a2, a3, a4⟩, rfl⟩
  unfold maxLen at a2
  go_wp2_with fail
  go_loopw [3, 4] (fun o s wr => ∃ (i j : Nat) (L : List Nat), i ≤ l'.length + 3 ∧ Hid (i = 4 * j) ∧ s = .int .i64 (i : Nat) ∧ Own wr w.heap.size 54 .u64 o L ∧ Hid (L.length = j) ∧ j ≤ i ∧ Small W L ∧
      Hid (val W L = val D (l'.take i)) ∧ Below w.heap.size w wr) (fun _ s _ => l'.length + 4 - (intOf s).toNat)
  case atStart => exact ⟨0, 0, [], by omega, rfl, rfl, Own.nil _ _ _ _, rfl, by omega, small_nil _, rfl, Below.refl _ _⟩
  case round =>
    obtain ⟨i, j, L, hi, hij, rfl, hown, hLj, hji, hsl, hv, hbel⟩ := hrel
    by_cases hil : i < l'.length
    · obtain ⟨b, off, rfl, hbb, hcell⟩ := a4 (by omega)
      obtain ⟨x0, hx0⟩ : ∃ x, x = l'[i]?.getD 0 := ⟨_, rfl⟩
      obtain ⟨x1, hx1⟩ : ∃ x, x = l'[i + 1]?.getD 0 := ⟨_, rfl⟩
      obtain ⟨x2, hx2⟩ : ∃ x, x = l'[i + 2]?.getD 0 := ⟨_, rfl⟩
      obtain ⟨x3, hx3⟩ : ∃ x, x = l'[i + 3]?.getD 0 := ⟨_, rfl⟩
      have y0 : x0 < 65536 := by rw [hx0]; exact small_getD hs' (by decide) _
      have y1 : x1 < 65536 := by rw [hx1]; exact small_getD hs' (by decide) _
      have y2 : x2 < 65536 := by rw [hx2]; exact small_getD hs' (by decide) _
      have y3 : x3 < 65536 := by rw [hx3]; exact small_getD hs' (by decide) _
      have cell : ∀ m, i + m < l'.length → wr.cell? ⟨b, off + (i + m), none⟩ = some (.int .i64 (l'[i + m]?.getD 0 : Nat)) := fun m hm => by
        rw [(hbel.cell (p := ⟨b, off + (i + m), none⟩) hbb).trans (hcell (i + m) hm)]; simp [hm]
      have zero : ∀ m, ¬ i + m < l'.length → l'[i + m]?.getD 0 = 0 := fun m hm => by rw [List.getElem?_eq_none (by omega)]; rfl
      have Cell := hid cell
      have Zero := hid zero
      have Hx0 := hid hx0; have Hx1 := hid hx1; have Hx2 := hid hx2; have Hx3 := hid hx3
      clear cell zero hx0 hx1 hx2 hx3 hcell a4
      go_wp2_with fail
      obtain ⟨wo, rfl⟩ : ∃ wo : World, wo = wr := ⟨_, rfl⟩
      go_loopw [5, 6] (fun a s wq => ∃ m : Nat, m ≤ 4 ∧ s = .int .i64 ((m : Int) - 1) ∧ a = .int .u64 (acc x0 x1 x2 x3 m : Nat) ∧ wq = wo) (fun _ s _ => (intOf s + 1).toNat)
      case atStart => exact ⟨4, by omega, rfl, rfl, rfl⟩
      case round =>
        obtain ⟨m, hm, rfl, rfl, rfl⟩ := hrel
        by_cases hm0 : 0 < m
        · rcases (by omega : m = 4 ∨ m = 3 ∨ m = 2 ∨ m = 1) with rfl | rfl | rfl | rfl
          · by_cases hin : i + 3 < l'.length
            · skip
              have c := Cell.out 3 hin
              rw [← Hx3.out] at c
              simp only [acc]
              go_wp2
              go_roundw
              case rel => exact ⟨3, by omega, rfl, num_eq (by first | rfl | omega | (simp only; omega)), by trivial⟩
              case measure => simp [intOf]
            · skip
              have hz : x3 = 0 := by rw [Hx3.out]; exact Zero.out 3 hin
              have Hz := hid hz
              clear hz
              simp only [acc]
              go_wp2
              go_roundw
              case rel => exact ⟨3, by omega, rfl, num_eq (by have := Hz.out; first | omega | (simp only; omega)), by trivial⟩
              case measure => simp [intOf]
          · by_cases hin : i + 2 < l'.length
            · skip
              have c := Cell.out 2 hin
              rw [← Hx2.out] at c
              simp only [acc]
              go_wp2
              go_roundw
              case rel => exact ⟨2, by omega, rfl, num_eq (by first | rfl | omega | (simp only; omega)), by trivial⟩
              case measure => simp [intOf]
            · skip
              have hz : x2 = 0 := by rw [Hx2.out]; exact Zero.out 2 hin
              have Hz := hid hz
              clear hz
              simp only [acc]
              go_wp2
              go_roundw
              case rel => exact ⟨2, by omega, rfl, num_eq (by have := Hz.out; first | omega | (simp only; omega)), by trivial⟩
              case measure => simp [intOf]
          · by_cases hin : i + 1 < l'.length
            · skip
              have c := Cell.out 1 hin
              rw [← Hx1.out] at c
              simp only [acc]
              go_wp2
              go_roundw
              case rel => exact ⟨1, by omega, rfl, num_eq (by first | rfl | omega | (simp only; omega)), by trivial⟩
              case measure => simp [intOf]
            · skip
              have hz : x1 = 0 := by rw [Hx1.out]; exact Zero.out 1 hin
              have Hz := hid hz
              clear hz
              simp only [acc]
              go_wp2
              go_roundw
              case rel => exact ⟨1, by omega, rfl, num_eq (by have := Hz.out; first | omega | (simp only; omega)), by trivial⟩
              case measure => simp [intOf]
          · by_cases hin : i + 0 < l'.length
            · skip
              have c := Cell.out 0 hin
              simp only [Nat.add_zero] at c
              rw [← Hx0.out] at c
              simp only [acc]
              go_wp2
              go_roundw
              case rel => exact ⟨0, by omega, rfl, num_eq (by first | rfl | omega | (simp only; omega)), by trivial⟩
              case measure => simp [intOf]
            · exact absurd hil (by simpa using hin)
        · obtain rfl : m = 0 := by omega
          simp only [acc]
          go_wp2_with (at_builtin; refine wpList_append_at rfl _ _ 24 rfl elemNat w.heap.size _ L rfl (hown.alloc _) _ [((x3 * 65536 + x2) * 65536 + x1) * 65536 + x0] rfl (At.oneI _ _ _ _ _ (by omega)) (by rw [hLj.out]; simp [maxLen]; omega) (by rw [hLj.out]; simp; omega) (by have := hbel.size; simp; omega) ?_; intro v2 w2 ho2 hb2 hs2)
          go_roundw
          case rel => exact ⟨i + 4, j + 1, L ++ [((x3 * 65536 + x2) * 65536 + x1) * 65536 + x0], by omega, by have := hij.out; unfold Hid; omega, by go_num, ho2, by have := hLj.out; unfold Hid; simp; omega, by omega,
            small_snoc hsl (by unfold W; omega), from_step hij.out hLj.out hv.out Hx0.out Hx1.out Hx2.out Hx3.out, (hbel.trans ((below1 _ _).mono hbel.size)).trans hb2⟩
          case measure => simp [intOf]; omega
    · have hv' : Hid (L = dig W (val D l')) := by
        have e := hv.out
        rw [val_take_ge _ _ _ (by omega)] at e
        unfold Hid
        rw [← e]
        refine canon W2 hsl ?_
        by_cases hj0 : j = 0
        · left; exact List.eq_nil_of_length_eq_zero (by rw [hLj.out, hj0])
        · right
          have hne : l' ≠ [] := by
            intro h0; have := hij.out; rw [h0] at hi; simp at hi; omega
          have hlen : l'.length = sz D (val D l') := by unfold sz; rw [← Hl.out]
          have hpos : 0 < val D l' := Nat.pos_of_ne_zero fun e0 => by
            have := Hl.out; rw [e0] at this; exact hne this
          have hp := pow_sz_le D2 hpos
          rw [← hlen] at hp
          rw [e, hLj.out]
          refine Nat.le_trans ?_ hp
          rw [show W ^ (j - 1) = D ^ (4 * (j - 1)) by rw [Nat.pow_mul]; rfl]
          exact Nat.pow_le_pow_right (by decide) (by have := hij.out; omega)
      clear a4 hij hv Hl
      go_wp2
      go_ret
      exact ⟨_, rfl, by rw [← hv'.out]; exact hown.at, hbel⟩
end Go.Proofs.YtjfehknilofdjaaGreat
/- elenchusref01.Whole, Neg. -/
namespace Go.Proofs.YtjfehknilofdjaaGreat
open Go.RowKit Big

theorem sz4 (n : Nat) : sz D n ≤ 4 * sz W n := by
  refine sz_le_of_lt D2 ?_
  have := lt_pow_sz W2 n
  rwa [Nat.pow_mul, show D ^ 4 = W by rfl]

theorem IntAt.whole {w : World} {neg : Bool} {n : Nat} {p : Option Addr} {len c : Nat} (h : At w .u64 (.slice p len c) (dig W n)) :
    IntAt w (.agg #[.bool (neg && decide (0 < len)), .slice p len c]) (sg neg n) := by
  have hl : len = sz W n := by
    obtain ⟨p', c', hv, r⟩ := h
    cases hv; rfl
  refine ⟨_, ?_, by rw [sg_natAbs]; exact h⟩
  by_cases h0 : n = 0
  · subst h0
    rw [sg_zero]
    have : len = 0 := by rw [hl]; rfl
    subst this
    simp
  · rw [sg_neg neg n h0]
    have : 0 < len := by rw [hl]; exact Nat.pos_of_ne_zero fun e => h0 ((sz_eq_zero W2).1 e)
    simp [this]

set_option maxHeartbeats 800000 in
theorem Whole_any (neg : Bool) (v : Value) (l : List Nat) (w : World) (h : At w .u64 v l) (hs : Small W l) (hlen : l.length ≤ 2199023255552) :
    Calls Tryz.prog 29 #[.bool neg, v] w (RInt (sg neg (val W l)) w) := by
  have hd : ∀ o, Calls Tryz.prog 39 #[v] (w.alloc o) (RAt .i64 (dig D (val W l)) (w.alloc o)) := fun o => Digits_any v l _ (h.alloc o) hs hlen
  have hsz : (dig D (val W l)).length ≤ 8796093022208 := by
    have h1 := sz4 (val W l)
    have h2 := sz_val W2 hs
    show sz D (val W l) ≤ _
    omega
  have Hd := hid hd
  have Hsz := hid hsz
  clear hd hsz
  generalize val W l = n at *
  go_enter Tryz.func29, Tryz.ntmps29
  go_wp2_with fail
  refine (Hd.out _).mono ?_
  rintro e w1 ⟨v1, rfl, h1, hb1⟩
  go_wp2_with fail
  refine (From_any v1 _ w1 h1 (small_dig D2 n) Hsz.out).mono ?_
  rintro e w2 ⟨v2, rfl, h2, hb2⟩
  rw [val_dig D2] at h2
  have hpr : Pair w2 w.heap.size 26 := Pair.below (Pair.below (Pair.new ..) hb1) hb2
  obtain ⟨_, _, q0, q1, q2, q3⟩ := hpr.cells
  have z1 : w.heap.size + 1 ≤ w1.heap.size := by have := hb1.size; simp at this; omega
  have bw : Below w.heap.size w w2 := ((below1 _ _).trans (hb1.mono (B' := w.heap.size) (by simp))).trans (hb2.mono (B' := w.heap.size) (by omega))
  obtain ⟨p, c, rfl, -⟩ := id h2
  have hI := IntAt.whole (neg := neg) h2
  have HI := hid hI
  clear hb1 hb2 h1 h2 hI
  generalize (dig W n).length = len at *
  cases neg
  · go_wp2
    exact bodyPost_ret (v := .agg #[.bool false, .slice p len c]) (by simp [results, Tryz.results29, go_sem, q0, q1]) rfl
      ⟨_, rfl, (show IntAt w2 _ _ from HI.out).stored hpr _ _ _ _, Below.stored bw (by omega) _ _⟩
  · by_cases h0 : 0 < len
    · have hx : Hid (decide (0 < len) = true) := by unfold Hid; simpa using h0
      go_wp2
      exact bodyPost_ret (v := .agg #[.bool true, .slice p len c]) (by simp [results, Tryz.results29, go_sem, q0, q1]) rfl
        ⟨_, rfl, (by have := HI.out; rw [hx.out] at this; exact this.stored hpr _ _ _ _), Below.stored bw (by omega) _ _⟩
    · have hx : Hid (decide (0 < len) = false) := by unfold Hid; simpa using h0
      go_wp2
      exact bodyPost_ret (v := .agg #[.bool false, .slice p len c]) (by simp [results, Tryz.results29, go_sem, q0, q1]) rfl
        ⟨_, rfl, (by have := HI.out; rw [hx.out] at this; exact this.stored hpr _ _ _ _), Below.stored bw (by omega) _ _⟩
end Go.Proofs.YtjfehknilofdjaaGreat
/- elenchusref01.plus: sums of digits. -/
namespace Go.Proofs.YtjfehknilofdjaaGreat
open Go.RowKit Big

theorem rplus_step {L l0 l1 : List Nat} {k x y c : Nat} (hl : L.length = k) (hx : x = l0[k]?.getD 0) (hy : y = l1[k]?.getD 0)
    (hv : val D L + c * D ^ k = val D (l0.take k) + val D (l1.take k)) : val D (L ++ [(c + x + y) % 65536]) + (c + x + y) / 65536 * D ^ (k + 1) = val D (l0.take (k + 1)) + val D (l1.take (k + 1)) := by
  rw [val_snoc, val_take_getD, val_take_getD, hl, ← hx, ← hy, Nat.pow_succ]
  exact add_step (by unfold D; omega : x + y + c = (c + x + y) % 65536 + D * ((c + x + y) / 65536)) hv

set_option maxRecDepth 100000 in
set_option maxHeartbeats 1600000 in
theorem rplus_any (v0 v1 : Value) (l0 l1 : List Nat) (w : World) (h0 : At w .i64 v0 l0) (h1 : At w .i64 v1 l1) (s0 : Small D l0) (s1 : Small D l1)
    (hl0 : l0.length ≤ 4398046511104) (hl1 : l1.length ≤ 4398046511104) : Calls Tryz.prog 38 #[v0, v1] w (RAt .i64 (dig D (val D l0 + val D l1)) w) := by
  have g0 : ∀ (k : Nat) W, Below w.heap.size w W → Calls Tryz.prog 58 #[v0, .int .i64 (k : Nat)] W fun e w' => e = .returned (.int .i64 (l0[k]?.getD 0 : Nat)) ∧ w' = W := fun k W hb => at_any v0 l0 k W (h0.below hb)
  have g1 : ∀ (k : Nat) W, Below w.heap.size w W → Calls Tryz.prog 58 #[v1, .int .i64 (k : Nat)] W fun e w' => e = .returned (.int .i64 (l1[k]?.getD 0 : Nat)) ∧ w' = W := fun k W hb => at_any v1 l1 k W (h1.below hb)
  have G0 := hid g0; have G1 := hid g1
  clear g0 g1
  obtain ⟨p0, c0, rfl, a1, a2, a3, -⟩ := h0
  obtain ⟨p1, c1, rfl, b1, b2, b3, -⟩ := h1
  unfold maxLen at a2 b2
  go_enter Tryz.func38, Tryz.ntmps38
  go_wp2_with fail
  go_loopw [5, 6, 7] (fun o c i wr => ∃ (k : Nat) (L : List Nat) (c' : Nat), (k ≤ l0.length ∨ k ≤ l1.length ∨ k ≤ l0.length + 1 ∧ k ≤ l1.length + 1 + l0.length ∧ c' = 0 ∨ (k = l1.length + 1 ∧ c' = 0)) ∧ i = .int .i64 (k : Nat) ∧ c = .int .i64 (c' : Nat) ∧ c' ≤ 1 ∧
      Own wr w.heap.size 3 .i64 o L ∧ Hid (L.length = k) ∧ Small D L ∧ Hid (val D L + c' * D ^ k = val D (l0.take k) + val D (l1.take k)) ∧ Below w.heap.size w wr) (fun _ _ i _ => l0.length + l1.length + 2 - (intOf i).toNat)
  case atStart => exact ⟨0, [], 0, Or.inl (Nat.zero_le _), rfl, rfl, by omega, Own.nil _ _ _ _, rfl, small_nil _, by simp [Hid, val], Below.refl _ _⟩
  case round =>
    obtain ⟨k, L, c', hk, rfl, rfl, hc', hown, hLk, hsl, hv, hbel⟩ := hrel
    obtain ⟨x, hx⟩ : ∃ x, x = l0[k]?.getD 0 := ⟨_, rfl⟩
    obtain ⟨y, hy⟩ : ∃ y, y = l1[k]?.getD 0 := ⟨_, rfl⟩
    have x0 : x < 65536 := by rw [hx]; exact small_getD s0 (by decide) k
    have y0 : y < 65536 := by rw [hy]; exact small_getD s1 (by decide) k
    have t0 := G0.out k wr hbel
    have t1 := G1.out k wr hbel
    rw [← hx] at t0
    rw [← hy] at t1
    have hx0 : l0.length ≤ k → x = 0 := fun h => by rw [hx, List.getElem?_eq_none h]; rfl
    have hy0 : l1.length ≤ k → y = 0 := fun h => by rw [hy, List.getElem?_eq_none h]; rfl
    have T0 := hid t0; have T1 := hid t1
    have Hx := hid hx; have Hy := hid hy
    clear t0 t1 hx hy
    have hk2 : k ≤ l0.length + l1.length + 1 := by omega
    by_cases hgo : k < l0.length ∨ k < l1.length ∨ 0 < c'
    · have hn : (k + 1 ≤ l0.length ∨ k + 1 ≤ l1.length ∨ k + 1 ≤ l0.length + 1 ∧ k + 1 ≤ l1.length + 1 + l0.length ∧ (c' + x + y) / 65536 = 0 ∨ (k + 1 = l1.length + 1 ∧ (c' + x + y) / 65536 = 0)) := by omega
      have Hn := hid hn
      clear hn hk hx0 hy0
      rcases (by omega : k < l0.length ∨ (¬ k < l0.length ∧ k < l1.length) ∨ (¬ k < l0.length ∧ ¬ k < l1.length ∧ 0 < c')) with h | ⟨h, h'⟩ | ⟨h, h', h''⟩
      all_goals
        go_wp2_with fail
        refine T0.out.mono ?_
        rintro e w' ⟨rfl, rfl⟩
        go_wp2_with fail
        refine T1.out.mono ?_
        rintro e w' ⟨rfl, rfl⟩
        go_wp2_with (at_builtin; refine wpList_append_at rfl _ _ 60 rfl elemInts w.heap.size _ L rfl (hown.alloc _) _ [(c' + x + y) % 65536] rfl (At.oneI _ _ _ _ _ (by omega)) (by rw [hLk.out]; simp [maxLen]; omega) (by rw [hLk.out]; simp; omega) (by have := hbel.size; simp; omega) ?_; intro v2 w2 ho2 hb2 hs2)
        go_roundw
        case rel => exact ⟨k + 1, L ++ [(c' + x + y) % 65536], (c' + x + y) / 65536, Hn.out, by go_num, by go_num, by omega, ho2, by have := hLk.out; unfold Hid; simp; omega, small_snoc hsl (Nat.mod_lt _ (by decide)),
          rplus_step hLk.out Hx.out Hy.out hv.out, (hbel.trans ((below1 _ _).mono hbel.size)).trans hb2⟩
        case measure => simp [intOf]; omega
    · have hc0 : c' = 0 := by omega
      subst hc0
      have h : ¬ k < l0.length := by omega
      have h' : ¬ k < l1.length := by omega
      have hv' : Hid (strip L = dig D (val D l0 + val D l1)) := by
        have := hv.out
        rw [val_take_ge _ _ _ (by omega), val_take_ge _ _ _ (by omega), Nat.zero_mul, Nat.add_zero] at this
        unfold Hid
        rw [← this, strip_dig D2 hsl]
      clear hgo hk hx0 hy0
      go_wp2_with (go_at_call 57; refine (rtrim_any _ L _ hown.at).mono ?_; rintro e w' ⟨v', rfl, hv'', rfl⟩)
      go_ret
      exact ⟨_, rfl, by rw [← hv'.out]; exact hv'', hbel⟩
end Go.Proofs.YtjfehknilofdjaaGreat
/- elenchusref01.less: differences of digits. -/
namespace Go.Proofs.YtjfehknilofdjaaGreat
open Go.RowKit Big

theorem rless_step {L l0 l1 : List Nat} {k x y c s c2 : Nat} {hk : k < l0.length} (hl : L.length = k) (hx : x = l0[k]) (hy : y = l1[k]?.getD 0) (hs : x + D * c2 = s + y + c)
    (hv : val D L + val D (l1.take k) = val D (l0.take k) + c * D ^ k) : val D (L ++ [s]) + val D (l1.take (k + 1)) = val D (l0.take (k + 1)) + c2 * D ^ (k + 1) := by
  rw [val_snoc, val_take_succ D l0 k hk, val_take_getD, hl, ← hx, ← hy, Nat.pow_succ]
  exact sub_step hs hv

set_option maxRecDepth 100000 in
set_option maxHeartbeats 1600000 in
theorem rless_own (v0 v1 : Value) (l0 l1 : List Nat) (w : World) (h0 : At w .i64 v0 l0) (h1 : At w .i64 v1 l1) (s0 : Small D l0) (s1 : Small D l1)
    (hl0 : l0.length ≤ 4398046511104) (hll : l1.length ≤ l0.length) (hvv : val D l1 ≤ val D l0) : Calls Tryz.prog 41 #[v0, v1] w (ROwn 3 .i64 (dig D (val D l0 - val D l1)) w) := by
  have g1 : ∀ (k : Nat) W, Below w.heap.size w W → ∀ n, Calls Tryz.prog 58 #[v1, .int .i64 (k : Nat)] (W.drewN n) fun e w' => e = .returned (.int .i64 (l1[k]?.getD 0 : Nat)) ∧ w' = W.drewN n := fun k W hb n => at_any v1 l1 k _ ((h1.below hb).drewN n)
  have G1 := hid g1
  clear g1
  have Hvv := hid hvv; clear hvv
  obtain ⟨r, hr⟩ : ∃ r, r = dig D (val D l0 - val D l1) := ⟨_, rfl⟩
  rw [← hr]
  have Hr := hid hr; clear hr
  obtain ⟨p0, c0, rfl, a1, a2, a3, a4⟩ := h0
  obtain ⟨p1, c1, rfl, b1, b2, b3, -⟩ := h1
  unfold maxLen at a2 b2
  go_enter Tryz.func41, Tryz.ntmps41
  go_wp2_with fail
  go_loopw [5, 6, 7] (fun o c i wr => ∃ (k : Nat) (L : List Nat) (c' : Nat), k ≤ l0.length ∧ i = .int .i64 (k : Nat) ∧ c = .int .i64 (c' : Nat) ∧ c' ≤ 1 ∧
      Own wr w.heap.size 3 .i64 o L ∧ Hid (L.length = k) ∧ Small D L ∧ Hid (val D L + val D (l1.take k) = val D (l0.take k) + c' * D ^ k) ∧ Below w.heap.size w wr) (fun _ _ i _ => l0.length - (intOf i).toNat)
  case atStart => exact ⟨0, [], 0, Nat.zero_le _, rfl, rfl, by omega, Own.nil _ _ _ _, rfl, small_nil _, by simp [Hid, val], Below.refl _ _⟩
  case round =>
    obtain ⟨k, L, c', hk, rfl, rfl, hc', hown, hLk, hsl, hv, hbel⟩ := hrel
    by_cases hkl : k < l0.length
    · obtain ⟨b, off, rfl, hbb, hcell⟩ := a4 (by omega)
      have e0 : wr.cell? ⟨b, off + k, none⟩ = some (.int .i64 (l0[k] : Nat)) := (hbel.cell (p := ⟨b, off + k, none⟩) hbb).trans (hcell k hkl)
      have x0 := small_get s0 k hkl
      obtain ⟨x, hx⟩ : ∃ x, x = l0[k] := ⟨_, rfl⟩
      rw [← hx] at e0 x0
      obtain ⟨y, hy⟩ : ∃ y, y = l1[k]?.getD 0 := ⟨_, rfl⟩
      have y0 : y < 65536 := by rw [hy]; exact small_getD s1 (by decide) k
      have t1 := G1.out k wr hbel
      rw [← hy] at t1
      have T1 := hid t1
      have Hx := hid hx; have Hy := hid hy
      clear t1 hx hy hcell a4
      unfold D at x0
      have i0 : (0 : Int) ≤ (k : Int) := by omega
      have i1 : (k : Int) < (l0.length : Int) := by omega
      by_cases hneg : x < y + c'
      · go_wp2_with fail
        go_quiet ((go_at_call 58; exact Calls.quiet_of_same (T1.out _)))
        go_wp2_with (at_builtin; refine wpList_append_at rfl _ _ 60 rfl elemInts w.heap.size _ L rfl ((hown.kept (below_drewN (Below.refl _ _) _)).alloc _) _ [x + 65536 - y - c'] rfl (At.oneI _ _ _ _ _ (by omega)) (by rw [hLk.out]; simp [maxLen]; omega) (by rw [hLk.out]; simp; omega) (by have := hbel.size; simp; omega) ?_; intro v2 w2 ho2 hb2 hs2)
        go_roundw
        case rel => exact ⟨k + 1, L ++ [x + 65536 - y - c'], 1, by omega, by go_num, rfl, by omega, ho2, by have := hLk.out; unfold Hid; simp; omega, small_snoc hsl (show _ < 65536 by omega),
          rless_step hLk.out Hx.out Hy.out (show _ + 65536 * _ = _ by omega) hv.out, ((below_drewN hbel _).trans ((below1 _ _).mono (by have := hbel.size; simp; omega))).trans hb2⟩
        case measure => simp [intOf]; omega
      · go_wp2_with fail
        go_quiet ((go_at_call 58; exact Calls.quiet_of_same (T1.out _)))
        go_wp2_with (at_builtin; refine wpList_append_at rfl _ _ 60 rfl elemInts w.heap.size _ L rfl ((hown.kept (below_drewN (Below.refl _ _) _)).alloc _) _ [x - y - c'] rfl (At.oneI _ _ _ _ _ (by omega)) (by rw [hLk.out]; simp [maxLen]; omega) (by rw [hLk.out]; simp; omega) (by have := hbel.size; simp; omega) ?_; intro v2 w2 ho2 hb2 hs2)
        go_roundw
        case rel => exact ⟨k + 1, L ++ [x - y - c'], 0, by omega, by go_num, rfl, by omega, ho2, by have := hLk.out; unfold Hid; simp; omega, small_snoc hsl (show _ < 65536 by omega),
          rless_step hLk.out Hx.out Hy.out (show _ + 65536 * _ = _ by omega) hv.out, ((below_drewN hbel _).trans ((below1 _ _).mono (by have := hbel.size; simp; omega))).trans hb2⟩
        case measure => simp [intOf]; omega
    · obtain rfl : k = l0.length := by omega
      have hv' : val D L + val D l1 = val D l0 + c' * D ^ l0.length := by
        have := hv.out
        rwa [List.take_length, val_take_ge D l1 _ (by omega)] at this
      have hlt := val_lt (by decide : 0 < D) hsl
      have e : strip L = r := by
        rw [strip_dig D2 hsl, Hr.out]
        have := Hvv.out
        rw [hLk.out] at hlt
        have : c' = 0 := by
          rcases (by omega : c' = 0 ∨ c' = 1) with h | h
          · exact h
          · subst h; omega
        subst this
        congr 1; omega
      have He := hid e; clear hv hv' e hlt a4
      have hst := strip_length L
      have ho' := hown
      obtain ⟨po, co, rfl, -⟩ := id hown.at
      go_wp2_with (go_at_call 57; refine (rtrim_val _ L _ hown.at).mono ?_; rintro e w' ⟨rfl, rfl⟩; simp only [cutTo])
      go_ret
      exact ⟨_, rfl, by rw [← He.out]; have := ho'.take (strip L).length hst; rwa [← strip_is_take] at this, hbel⟩
theorem rless_any (v0 v1 : Value) (l0 l1 : List Nat) (w : World) (h0 : At w .i64 v0 l0) (h1 : At w .i64 v1 l1) (s0 : Small D l0) (s1 : Small D l1)
    (hl0 : l0.length ≤ 4398046511104) (hll : l1.length ≤ l0.length) (hvv : val D l1 ≤ val D l0) : Calls Tryz.prog 41 #[v0, v1] w (RAt .i64 (dig D (val D l0 - val D l1)) w) :=
  (rless_own v0 v1 l0 l1 w h0 h1 s0 s1 hl0 hll hvv).mono fun _ _ ⟨v, he, ho, hb⟩ => ⟨v, he, ho.at, hb⟩
end Go.Proofs.YtjfehknilofdjaaGreat
/- elenchusref01.compare, order: the order of sizes. -/
namespace Go.Proofs.YtjfehknilofdjaaGreat
open Go.RowKit Big

theorem ord_partD {l0 l1 : List Nat} {n m : Nat} (s0 : Small D l0) (s1 : Small D l1) (h0 : val D l0 = n) (h1 : val D l1 = m) {k : Nat} (hk0 : k < l0.length) (hk1 : k < l1.length)
    (hd : l0.drop (k + 1) = l1.drop (k + 1)) : (l0[k] < l1[k] → ord n m = -1) ∧ (l1[k] < l0[k] → ord n m = 1) := by
  refine ⟨fun h => ?_, fun h => ?_⟩
  · have := val_lt_of_part s0 hk0 hk1 hd h
    exact ord_lt (by omega)
  · have := val_lt_of_part s1 hk1 hk0 hd.symm h
    exact ord_gt (by omega)

set_option maxRecDepth 100000 in
set_option maxHeartbeats 1600000 in
theorem rcompare_any (v0 v1 : Value) (n m : Nat) (w : World) (h0 : At w .i64 v0 (dig D n)) (h1 : At w .i64 v1 (dig D m)) :
    Calls Tryz.prog 59 #[v0, v1] w (ROrd (ord n m) w) := by
  have s0 := small_dig D2 n
  have s1 := small_dig D2 m
  have k1 : (dig D n).length < (dig D m).length → n < m := lt_of_sz_lt D2
  have k2 : (dig D m).length < (dig D n).length → m < n := lt_of_sz_lt D2
  have hv0 := val_dig D2 n
  have hv1 := val_dig D2 m
  generalize dig D n = l0 at *
  generalize dig D m = l1 at *
  have Hv0 := hid hv0; clear hv0
  have Hv1 := hid hv1; clear hv1
  obtain ⟨p0, c0, rfl, a1, a2, a3, a4⟩ := h0
  obtain ⟨p1, c1, rfl, b1, b2, b3, b4⟩ := h1
  unfold maxLen at a2 b2
  by_cases hl : l0.length = l1.length
  · have Hl := hid hl
    rw [hl] at a1 ⊢; clear hl
    go_enter Tryz.func59, Tryz.ntmps59
    go_wp2_with fail
    go_loopw [5] (fun i wr => ∃ (k : Nat), k ≤ l1.length ∧ i = .int .i64 ((k : Int) - 1) ∧ Hid (l0.drop k = l1.drop k) ∧ Hid (∃ j, wr = w.drewN j)) (fun i _ => (intOf i + 1).toNat)
    case atStart => exact ⟨l1.length, Nat.le_refl _, rfl, by unfold Hid; rw [List.drop_length, ← Hl.out, List.drop_length], 0, rfl⟩
    case round =>
      obtain ⟨k, hk, rfl, hd, Hw⟩ := hrel
      by_cases hk0 : 0 < k
      · obtain ⟨k, rfl⟩ : ∃ k', k = k' + 1 := ⟨k - 1, by omega⟩
        have hkl : k < l0.length := by rw [Hl.out]; omega
        obtain ⟨b, off, rfl, hbb, hc0⟩ := a4 (Nat.lt_of_le_of_lt (Nat.zero_le _) hkl)
        obtain ⟨b', off', rfl, hbb', hc1⟩ := b4 (by omega)
        have e0 : wr.cell? ⟨b, off + k, none⟩ = some (.int .i64 (l0[k] : Nat)) := by obtain ⟨j, rfl⟩ := Hw.out; exact hc0 k hkl
        have e1 : wr.cell? ⟨b', off' + k, none⟩ = some (.int .i64 (l1[k] : Nat)) := by obtain ⟨j, rfl⟩ := Hw.out; exact hc1 k (by omega)
        have ep := ord_partD s0 s1 Hv0.out Hv1.out hkl (show k < l1.length by omega) hd.out
        have es : l0[k] = l1[k] → l0.drop k = l1.drop k := fun h => by
          rw [List.drop_eq_getElem_cons hkl, List.drop_eq_getElem_cons (show k < l1.length by omega), h, hd.out]
        generalize l0[k] = x at *
        generalize l1[k] = y at *
        have Ep : Hid ((x < y → ord n m = -1) ∧ (y < x → ord n m = 1)) := ep
        have Es : Hid (x = y → l0.drop k = l1.drop k) := es
        clear a4 b4 hc0 hc1 ep es hbb hbb' s0 s1 k1 k2
        have hlow : (0 : Int) ≤ (k : Int) + 1 - 1 := by omega
        rcases Nat.lt_trichotomy x y with hxy | hxy | hxy
        · have Hr : Hid (ord n m = -1) := Ep.out.1 hxy
          clear Ep Es
          go_wp2
          go_quiet (fail)
          go_wp2
          go_ret
          exact ⟨by rw [Hr.out]; rfl, drawn_more Hw.out⟩
        · subst hxy
          go_wp2
          go_quiet (fail)
          go_wp2
          go_quiet (fail)
          go_wp2
          go_roundw
          case rel => exact ⟨k, by omega, rfl, Es.out (by trivial), by first | exact drawn_more Hw.out | exact drawn_more (drawn_more Hw.out)⟩
          case measure => simp [intOf]
        · have Hr : Hid (ord n m = 1) := Ep.out.2 hxy
          clear Ep Es
          go_wp2
          go_quiet (fail)
          go_wp2
          go_quiet (fail)
          go_wp2
          go_ret
          exact ⟨by rw [Hr.out]; rfl, drawn_more (drawn_more Hw.out)⟩
      · obtain rfl : k = 0 := by omega
        have hn : ord n m = 0 := by
          have h := hd.out
          rw [List.drop_zero, List.drop_zero] at h
          rw [← Hv0.out, ← Hv1.out, h]; exact ord_eq _
        have Hn := hid hn
        clear hn a4 b4 k1 k2 hd
        go_wp2
        go_ret
        exact ⟨by rw [Hn.out]; rfl, Hw.out⟩
  · have hb : ((l0.length : Int) != (l1.length : Int)) = true := bne_iff_ne.2 (by omega)
    rcases Nat.lt_or_ge l0.length l1.length with h | h
    · have Hn : Hid (ord n m = -1) := ord_lt (by have := k1 h; omega)
      clear a4 b4 k1 k2
      go_enter Tryz.func59, Tryz.ntmps59
      go_wp2
      go_ret
      exact ⟨by rw [Hn.out]; rfl, 0, rfl⟩
    · have h' : ¬ l0.length < l1.length := by omega
      have Hn : Hid (ord n m = 1) := ord_gt (by have := k2 (by omega); omega)
      clear a4 b4 k1 k2
      go_enter Tryz.func59, Tryz.ntmps59
      go_wp2
      go_ret
      exact ⟨by rw [Hn.out]; rfl, 0, rfl⟩

/-- elenchusref01.order -/
theorem order_any (v0 v1 : Value) (l0 l1 : List Nat) (w : World) (h0 : At w .u64 v0 l0) (h1 : At w .u64 v1 l1) (s0 : Small W l0) (s1 : Small W l1) (c0 : l0.length ≤ 1099511627776) (c1 : l1.length ≤ 1099511627776) :
    Calls Tryz.prog 40 #[v0, v1] w (RNum .i64 (ord (val W l0) (val W l1)) w) := by
  have g0 := Digits_any v0 l0 w h0 s0 (by omega)
  have g1 : ∀ W', Below w.heap.size w W' → Calls Tryz.prog 39 #[v1] W' (RAt .i64 (dig D (val W l1)) W') := fun W' hb => Digits_any v1 l1 W' (h1.below hb) s1 (by omega)
  have G0 := hid g0; have G1 := hid g1
  obtain ⟨r, hr⟩ : ∃ r, r = ord (val W l0) (val W l1) := ⟨_, rfl⟩
  rw [← hr]
  have Hr := hid hr
  clear hr g0 g1
  go_enter Tryz.func40, Tryz.ntmps40
  go_wp2_with fail
  refine G0.out.mono ?_
  rintro e w1 ⟨v2, rfl, ha2, hb1⟩
  go_wp2_with fail
  refine (G1.out _ hb1).mono ?_
  rintro e w2 ⟨v3, rfl, ha3, hb2⟩
  have ha2' := ha2.below hb2
  go_wp2_with fail
  refine (rcompare_any v2 v3 _ _ w2 ha2' ha3).mono ?_
  rintro e w3 ⟨rfl, k, rfl⟩
  go_wp2_with fail
  go_ret
  exact ⟨by rw [Hr.out]; rfl, below_drewN (hb1.trans (hb2.mono hb1.size)) _⟩
end Go.Proofs.YtjfehknilofdjaaGreat
/- elenchusref01's digit functions, said of numbers. -/
namespace Go.Proofs.YtjfehknilofdjaaGreat
open Go.RowKit Big
theorem rplusN_any (v0 v1 : Value) (x y : Nat) (w : World) (h0 : At w .i64 v0 (dig D x)) (h1 : At w .i64 v1 (dig D y)) (k0 : sz D x ≤ 4398046511104) (k1 : sz D y ≤ 4398046511104) :
    Calls Tryz.prog 38 #[v0, v1] w (RAt .i64 (dig D (x + y)) w) := by
  have := rplus_any v0 v1 _ _ w h0 h1 (small_dig D2 _) (small_dig D2 _) k0 k1
  rwa [val_dig D2, val_dig D2] at this
theorem rlessN_any (v0 v1 : Value) (x y : Nat) (w : World) (h0 : At w .i64 v0 (dig D x)) (h1 : At w .i64 v1 (dig D y)) (k0 : sz D x ≤ 4398046511104) (hyx : y ≤ x) :
    Calls Tryz.prog 41 #[v0, v1] w (RAt .i64 (dig D (x - y)) w) := by
  have := rless_any v0 v1 _ _ w h0 h1 (small_dig D2 _) (small_dig D2 _) k0 (sz_mono D2 hyx) (by rw [val_dig D2, val_dig D2]; exact hyx)
  rwa [val_dig D2, val_dig D2] at this
theorem FromN_any (v : Value) (x : Nat) (w : World) (h : At w .i64 v (dig D x)) (k : sz D x ≤ 8796093022208) :
    Calls Tryz.prog 37 #[v] w (RAt .u64 (dig W x) w) := by
  have := From_any v _ w h (small_dig D2 _) k
  rwa [val_dig D2] at this
theorem WholeN_any (neg : Bool) (v : Value) (x : Nat) (w : World) (h : At w .u64 v (dig W x)) (k : sz W x ≤ 2199023255552) :
    Calls Tryz.prog 29 #[.bool neg, v] w (RInt (sg neg x) w) := by
  have := Whole_any neg v _ w h (small_dig W2 _) k
  rwa [val_dig W2] at this
end Go.Proofs.YtjfehknilofdjaaGreat
/- whole.Cmp. -/
namespace Go.Proofs.YtjfehknilofdjaaGreat
open Go.RowKit Big

end Go.Proofs.YtjfehknilofdjaaGreat
/- whole.Add, Sub. -/
namespace Go.Proofs.YtjfehknilofdjaaGreat
open Go.RowKit Big

theorem sg_add_same (n : Bool) (x y : Nat) : sg n (x + y) = sg n x + sg n y := by unfold sg; cases n <;> simp <;> omega
theorem sg_add_lt {n m : Bool} {x y : Nat} (h : n ≠ m) (hxy : x < y) : sg m (y - x) = sg n x + sg m y := by unfold sg; cases n <;> cases m <;> simp at h ⊢ <;> omega
theorem sg_add_ge {n m : Bool} {x y : Nat} (h : n ≠ m) (hxy : ¬ x < y) : sg n (x - y) = sg n x + sg m y := by unfold sg; cases n <;> cases m <;> simp at h ⊢ <;> omega

set_option maxHeartbeats 1600000 in
theorem Add_any (v0 v1 : Value) (a b : Int) (w : World) (h0 : RawAt w v0 a) (h1 : RawAt w v1 b) : Calls Tryz.prog 34 #[v0, v1] w (RInt (a + b) w) := by
  obtain ⟨n0, s0, l0, rfl, a0, b0, c0, rfl⟩ := h0
  obtain ⟨n1, s1, l1, rfl, a1, b1, c1, rfl⟩ := h1
  have t0 : ∀ W : World, At W .u64 s0 l0 → Calls Tryz.prog 44 #[s0] W (fun e w' => e = .returned (cutTo s0 (strip l0).length) ∧ w' = W) := fun W h => trim_val s0 l0 W h
  have t1 : ∀ W : World, At W .u64 s1 l1 → Calls Tryz.prog 44 #[s1] W (fun e w' => e = .returned (cutTo s1 (strip l1).length) ∧ w' = W) := fun W h => trim_val s1 l1 W h
  have T0 := hid t0; have T1 := hid t1; clear t0 t1
  have d0 := hid (strip_dig W2 b0)
  have d1 := hid (strip_dig W2 b1)
  have m0 : sz W (val W l0) ≤ 1099511627776 := Nat.le_trans (sz_val W2 b0) c0
  have m1 : sz W (val W l1) ≤ 1099511627776 := Nat.le_trans (sz_val W2 b1) c1
  obtain ⟨r, hr⟩ : ∃ r, r = sg n0 (val W l0) + sg n1 (val W l1) := ⟨_, rfl⟩
  rw [← hr]
  have Hr := hid hr; clear hr
  go_enter Tryz.func34, Tryz.ntmps34
  go_wp2_with fail
  go_quiet ((first
    | (go_at_call_of 44 (s0); exact Calls.quiet_of_same (T0.out _ (by repeat (first | exact a0 | apply At.drewN | apply At.drew | apply At.alloc))))
    | (go_at_call_of 44 (s1); exact Calls.quiet_of_same (T1.out _ (by repeat (first | exact a1 | apply At.drewN | apply At.drew | apply At.alloc))))))
  generalize hW : World.drewN (World.alloc (World.alloc (World.alloc w _) _) _) _ = W3
  have bw : Below w.heap.size w W3 := by rw [← hW]; exact below_drewN (((below1 _ _).alloc (by simp) _).alloc (by simp; omega) _) _
  have hp : Pair W3 (w.heap.size + 1 + 1) 26 := by rw [← hW]; exact Pair.new2 ..
  obtain ⟨c00, c01, c10, c11, -⟩ : Two W3 w.heap.size (.bool n0) s0 (.bool n1) s1 := by rw [← hW]; exact (Two.new w _ _ _ _ _).below (below_drewN (below1 _ _) _)
  have z3 : w.heap.size + 3 ≤ W3.heap.size := by rw [← hW]; simp
  have A0 : At W3 .u64 (cutTo s0 (strip l0).length) (dig W (val W l0)) := by have := (a0.below bw).strip; rwa [d0.out] at this ⊢
  have A1 : At W3 .u64 (cutTo s1 (strip l1).length) (dig W (val W l1)) := by have := (a1.below bw).strip; rwa [d1.out] at this ⊢
  have bw' := hid bw
  clear hW bw c01 c11 T0 T1 a0 a1
  generalize cutTo s0 (strip l0).length = u0 at *
  generalize cutTo s1 (strip l1).length = u1 at *
  generalize val W l0 = x at *
  generalize val W l1 = y at *
  clear d0 d1 b0 b1 c0 c1
  by_cases hn : n0 = n1
  · subst hn
    have Hs : Hid (sg n0 (x + y) = r) := by unfold Hid; rw [sg_add_same, Hr.out]
    go_wp2
    go_region_held3 (fun w' => w'.cell? ⟨w.heap.size, 0, none⟩ = some (.bool n0) ∧ Pair w' (w.heap.size + 1 + 1) 26)
      (first | (go_split_ands; (try dsimp only); (repeat' apply And.intro) <;> first | assumption | exact Pair.drew ‹_› | exact Pair.below ‹_› hb9 | exact Pair.below ‹_› hb8 | exact Pair.below ‹_› hb7 | exact Pair.below ‹_› hb6 | exact Pair.below ‹_› hb5 | exact Pair.below ‹_› hb4 | exact Pair.below ‹_› hb3 | exact Pair.below ‹_› hb2 | exact Pair.below ‹_› hb1 | exact (hb9.cell (by first | omega | (simp; omega) | (simp; done))).trans ‹_› | exact (hb8.cell (by first | omega | (simp; omega) | (simp; done))).trans ‹_› | exact (hb7.cell (by first | omega | (simp; omega) | (simp; done))).trans ‹_› | exact (hb6.cell (by first | omega | (simp; omega) | (simp; done))).trans ‹_› | exact (hb5.cell (by first | omega | (simp; omega) | (simp; done))).trans ‹_› | exact (hb4.cell (by first | omega | (simp; omega) | (simp; done))).trans ‹_› | exact (hb3.cell (by first | omega | (simp; omega) | (simp; done))).trans ‹_› | exact (hb2.cell (by first | omega | (simp; omega) | (simp; done))).trans ‹_› | exact (hb1.cell (by first | omega | (simp; omega) | (simp; done))).trans ‹_› | exact Pair.set1 (Pair.set0 ‹_› _) _ _ _ | exact (cell_stored _ (by first | (dsimp only; omega) | (simp; done) | (simp; omega)) _ _).trans ‹_› | exact Pair.drew (Pair.below ‹_› (below1 _ _)) | exact Pair.below ‹_› (below1 _ _) | exact Pair.far ‹_› (by omega) hb1 | exact Pair.new .. | exact Pair.new1 .. | exact Pair.new2 .. | (go_keep; done)) | (go_keep; done))
      (first
        | (go_at_call 51; refine (plus_any u0 u1 x y _ (by exact A0) (by exact A1) m0 m1).mono ?_; rintro e w1 ⟨v1, rfl, ho1, hb1⟩; have hz1 : w.heap.size + 3 ≤ w1.heap.size := (by have := hb1.size; simp at this; omega))
        | (go_at_call 49; refine (told_any n0 _ _ _ ho1.at).mono ?_; rintro e w2 ⟨v2, rfl, hi2, hb2⟩; obtain ⟨p2, n2, c2, rfl, hi2⟩ := hi2.shape; have hpr := Pair.below (by go_split_ands; assumption) hb2; obtain ⟨_, _, q0, q1, q2, q3⟩ := hpr.cells))
    go_wp2
    exact bodyPost_ret (v := .agg #[.bool (decide (sg n0 (x + y) < 0)), .slice p2 n2 c2]) (by simp [results, Tryz.results34, go_sem, q0, q1]) rfl
      ⟨_, rfl, by rw [← Hs.out]; exact hi2.stored hpr _ _ _ _, Below.stored ((bw'.out.drew.trans (hb1.mono (B' := w.heap.size) (by simp; omega))).trans (hb2.mono (B' := w.heap.size) (by omega))) (by omega) _ _⟩
  · have hb : (n0 == n1) = false := beq_eq_false_iff_ne.2 hn
    by_cases hxy : x < y
    · have Hs : Hid (sg n1 (y - x) = r) := by unfold Hid; rw [sg_add_lt hn hxy, Hr.out]
      have ho : ord (x : Int) y = -1 := ord_lt (by omega)
      have Hc := hid (compare_any u0 u1 x y W3 A0 A1)
      rw [ho] at Hc
      clear ho
      go_wp2_with (go_at_call 52; refine Hc.out.mono ?_; rintro e w' ⟨rfl, k, rfl⟩)
      go_region_held3 (fun w' => w'.cell? ⟨w.heap.size + 1, 0, none⟩ = some (.bool n1) ∧ Pair w' (w.heap.size + 1 + 1) 26)
        (first | (go_split_ands; (try dsimp only); (repeat' apply And.intro) <;> first | assumption | exact Pair.drew ‹_› | exact Pair.below ‹_› hb9 | exact Pair.below ‹_› hb8 | exact Pair.below ‹_› hb7 | exact Pair.below ‹_› hb6 | exact Pair.below ‹_› hb5 | exact Pair.below ‹_› hb4 | exact Pair.below ‹_› hb3 | exact Pair.below ‹_› hb2 | exact Pair.below ‹_› hb1 | exact (hb9.cell (by first | omega | (simp; omega) | (simp; done))).trans ‹_› | exact (hb8.cell (by first | omega | (simp; omega) | (simp; done))).trans ‹_› | exact (hb7.cell (by first | omega | (simp; omega) | (simp; done))).trans ‹_› | exact (hb6.cell (by first | omega | (simp; omega) | (simp; done))).trans ‹_› | exact (hb5.cell (by first | omega | (simp; omega) | (simp; done))).trans ‹_› | exact (hb4.cell (by first | omega | (simp; omega) | (simp; done))).trans ‹_› | exact (hb3.cell (by first | omega | (simp; omega) | (simp; done))).trans ‹_› | exact (hb2.cell (by first | omega | (simp; omega) | (simp; done))).trans ‹_› | exact (hb1.cell (by first | omega | (simp; omega) | (simp; done))).trans ‹_› | exact Pair.set1 (Pair.set0 ‹_› _) _ _ _ | exact (cell_stored _ (by first | (dsimp only; omega) | (simp; done) | (simp; omega)) _ _).trans ‹_› | exact Pair.drew (Pair.below ‹_› (below1 _ _)) | exact Pair.below ‹_› (below1 _ _) | exact Pair.far ‹_› (by omega) hb1 | exact Pair.new .. | exact Pair.new1 .. | exact Pair.new2 .. | (go_keep; done)) | (go_keep; done))
        (first
          | (go_at_call 53; refine (minus_any u1 u0 y x _ (by exact A1) (by exact A0) (by omega) m1).mono ?_; rintro e w1 ⟨v1, rfl, ho1, hb1⟩; have hz1 : w.heap.size + 3 ≤ w1.heap.size := (by have := hb1.size; simp at this; omega))
          | (go_at_call 49; refine (told_any n1 _ _ _ ho1).mono ?_; rintro e w2 ⟨v2, rfl, hi2, hb2⟩; obtain ⟨p2, n2, c2, rfl, hi2⟩ := hi2.shape; have hpr := Pair.below (by go_split_ands; assumption) hb2; obtain ⟨_, _, q0, q1, q2, q3⟩ := hpr.cells))
      go_wp2
      exact bodyPost_ret (v := .agg #[.bool (decide (sg n1 (y - x) < 0)), .slice p2 n2 c2]) (by simp [results, Tryz.results34, go_sem, q0, q1]) rfl
        ⟨_, rfl, by rw [← Hs.out]; exact hi2.stored hpr _ _ _ _, Below.stored (((below_drewN bw'.out k).drew.trans (hb1.mono (B' := w.heap.size) (by simp; omega))).trans (hb2.mono (B' := w.heap.size) (by omega))) (by omega) _ _⟩
    · have Hs : Hid (sg n0 (x - y) = r) := by unfold Hid; rw [sg_add_ge hn hxy, Hr.out]
      have ho : ∃ o, o = ord (x : Int) y ∧ ¬ o < 0 := ⟨_, rfl, by unfold ord; (repeat' split) <;> omega⟩
      obtain ⟨o, ho, hneg⟩ := ho
      have Hc := hid (compare_any u0 u1 x y W3 A0 A1)
      rw [← ho] at Hc
      clear ho
      go_wp2_with (go_at_call 52; refine Hc.out.mono ?_; rintro e w' ⟨rfl, k, rfl⟩)
      go_region_held3 (fun w' => w'.cell? ⟨w.heap.size, 0, none⟩ = some (.bool n0) ∧ Pair w' (w.heap.size + 1 + 1) 26)
        (first | (go_split_ands; (try dsimp only); (repeat' apply And.intro) <;> first | assumption | exact Pair.drew ‹_› | exact Pair.below ‹_› hb9 | exact Pair.below ‹_› hb8 | exact Pair.below ‹_› hb7 | exact Pair.below ‹_› hb6 | exact Pair.below ‹_› hb5 | exact Pair.below ‹_› hb4 | exact Pair.below ‹_› hb3 | exact Pair.below ‹_› hb2 | exact Pair.below ‹_› hb1 | exact (hb9.cell (by first | omega | (simp; omega) | (simp; done))).trans ‹_› | exact (hb8.cell (by first | omega | (simp; omega) | (simp; done))).trans ‹_› | exact (hb7.cell (by first | omega | (simp; omega) | (simp; done))).trans ‹_› | exact (hb6.cell (by first | omega | (simp; omega) | (simp; done))).trans ‹_› | exact (hb5.cell (by first | omega | (simp; omega) | (simp; done))).trans ‹_› | exact (hb4.cell (by first | omega | (simp; omega) | (simp; done))).trans ‹_› | exact (hb3.cell (by first | omega | (simp; omega) | (simp; done))).trans ‹_› | exact (hb2.cell (by first | omega | (simp; omega) | (simp; done))).trans ‹_› | exact (hb1.cell (by first | omega | (simp; omega) | (simp; done))).trans ‹_› | exact Pair.set1 (Pair.set0 ‹_› _) _ _ _ | exact (cell_stored _ (by first | (dsimp only; omega) | (simp; done) | (simp; omega)) _ _).trans ‹_› | exact Pair.drew (Pair.below ‹_› (below1 _ _)) | exact Pair.below ‹_› (below1 _ _) | exact Pair.far ‹_› (by omega) hb1 | exact Pair.new .. | exact Pair.new1 .. | exact Pair.new2 .. | (go_keep; done)) | (go_keep; done))
        (first
          | (go_at_call 53; refine (minus_any u0 u1 x y _ (by exact A0) (by exact A1) (by omega) m0).mono ?_; rintro e w1 ⟨v1, rfl, ho1, hb1⟩; have hz1 : w.heap.size + 3 ≤ w1.heap.size := (by have := hb1.size; simp at this; omega))
          | (go_at_call 49; refine (told_any n0 _ _ _ ho1).mono ?_; rintro e w2 ⟨v2, rfl, hi2, hb2⟩; obtain ⟨p2, n2, c2, rfl, hi2⟩ := hi2.shape; have hpr := Pair.below (by go_split_ands; assumption) hb2; obtain ⟨_, _, q0, q1, q2, q3⟩ := hpr.cells))
      go_wp2
      exact bodyPost_ret (v := .agg #[.bool (decide (sg n0 (x - y) < 0)), .slice p2 n2 c2]) (by simp [results, Tryz.results34, go_sem, q0, q1]) rfl
        ⟨_, rfl, by rw [← Hs.out]; exact hi2.stored hpr _ _ _ _, Below.stored (((below_drewN bw'.out k).drew.trans (hb1.mono (B' := w.heap.size) (by simp; omega))).trans (hb2.mono (B' := w.heap.size) (by omega))) (by omega) _ _⟩
end Go.Proofs.YtjfehknilofdjaaGreat
/- elenchusref01.Neg, Add. -/
namespace Go.Proofs.YtjfehknilofdjaaGreat
open Go.RowKit Big

set_option maxRecDepth 100000 in
set_option maxHeartbeats 3200000 in
theorem RAdd_any (v0 v1 : Value) (a b : Int) (w : World) (h0 : RawAt w v0 a) (h1 : RawAt w v1 b) : Calls Tryz.prog 23 #[v0, v1] w (RInt (a + b) w) := by
  obtain ⟨n0, s0, l0, rfl, a0, b0, c0, rfl⟩ := h0
  obtain ⟨n1, s1, l1, rfl, a1, b1, c1, rfl⟩ := h1
  have g0 : ∀ W', Below w.heap.size w W' → Calls Tryz.prog 39 #[s0] W' (RAt .i64 (dig D (val W l0)) W') := fun W' hb => Digits_any s0 l0 W' (a0.below hb) b0 (by omega)
  have g1 : ∀ W', Below w.heap.size w W' → Calls Tryz.prog 39 #[s1] W' (RAt .i64 (dig D (val W l1)) W') := fun W' hb => Digits_any s1 l1 W' (a1.below hb) b1 (by omega)
  have go : ∀ W', Below w.heap.size w W' → Calls Tryz.prog 40 #[s0, s1] W' (RNum .i64 (ord (val W l0) (val W l1)) W') := fun W' hb => order_any s0 s1 l0 l1 W' (a0.below hb) (a1.below hb) b0 b1 c0 c1
  have m0 : sz W (val W l0) ≤ 1099511627776 := Nat.le_trans (sz_val W2 b0) c0
  have m1 : sz W (val W l1) ≤ 1099511627776 := Nat.le_trans (sz_val W2 b1) c1
  have G0 := hid g0; have G1 := hid g1; have GO := hid go
  obtain ⟨r, hr⟩ : ∃ r, r = sg n0 (val W l0) + sg n1 (val W l1) := ⟨_, rfl⟩
  rw [← hr]
  have Hr := hid hr
  clear hr g0 g1 go a0 a1 b0 b1 c0 c1
  generalize val W l0 = x at *
  generalize val W l1 = y at *
  have k0 : sz D x ≤ 4398046511104 := Nat.le_trans (sz4 x) (by omega)
  have k1 : sz D y ≤ 4398046511104 := Nat.le_trans (sz4 y) (by omega)
  by_cases hn : n0 = n1
  · subst hn
    have Hs : Hid (sg n0 (x + y) = r) := by unfold Hid; rw [sg_add_same, Hr.out]
    have mw : sz W (x + y) ≤ 2199023255552 := Nat.le_trans (sz_add W2 m0 m1) (by omega)
    have ks : sz D (x + y) ≤ 8796093022208 := Nat.le_trans (sz4 _) (by omega)
    go_enter Tryz.func23, Tryz.ntmps23
    go_wp2_with fail
    generalize hW : World.alloc (World.alloc (World.alloc w _) _) _ = W3
    have bw : Below w.heap.size w W3 := by rw [← hW]; exact ((below1 _ _).alloc (by simp) _).alloc (by simp; omega) _
    have hp : Pair W3 (w.heap.size + 1 + 1) 26 := by rw [← hW]; exact Pair.new2 ..
    obtain ⟨c00, c01, c10, c11, -⟩ : Two W3 w.heap.size (.bool n0) s0 (.bool n0) s1 := by rw [← hW]; exact (Two.new w _ _ _ _ _).below (below1 _ _)
    have z3 : w.heap.size + 3 ≤ W3.heap.size := by rw [← hW]; simp
    have bw' := hid bw
    clear hW bw
    go_region_held3 (fun w' => w'.cell? ⟨w.heap.size, 0, none⟩ = some (.bool n0) ∧ w'.cell? ⟨w.heap.size, 1, none⟩ = some s0 ∧ w'.cell? ⟨w.heap.size + 1, 0, none⟩ = some (.bool n0) ∧ w'.cell? ⟨w.heap.size + 1, 1, none⟩ = some s1 ∧ Pair w' (w.heap.size + 1 + 1) 26)
      (first | (go_split_ands; (try dsimp only); (repeat' apply And.intro) <;> first | assumption | exact Pair.drew ‹_› | exact Pair.below ‹_› hb9 | exact Pair.below ‹_› hb8 | exact Pair.below ‹_› hb7 | exact Pair.below ‹_› hb6 | exact Pair.below ‹_› hb5 | exact Pair.below ‹_› hb4 | exact Pair.below ‹_› hb3 | exact Pair.below ‹_› hb2 | exact Pair.below ‹_› hb1 | exact (hb9.cell (by first | omega | (simp; omega) | (simp; done))).trans ‹_› | exact (hb8.cell (by first | omega | (simp; omega) | (simp; done))).trans ‹_› | exact (hb7.cell (by first | omega | (simp; omega) | (simp; done))).trans ‹_› | exact (hb6.cell (by first | omega | (simp; omega) | (simp; done))).trans ‹_› | exact (hb5.cell (by first | omega | (simp; omega) | (simp; done))).trans ‹_› | exact (hb4.cell (by first | omega | (simp; omega) | (simp; done))).trans ‹_› | exact (hb3.cell (by first | omega | (simp; omega) | (simp; done))).trans ‹_› | exact (hb2.cell (by first | omega | (simp; omega) | (simp; done))).trans ‹_› | exact (hb1.cell (by first | omega | (simp; omega) | (simp; done))).trans ‹_› | exact Pair.set1 (Pair.set0 ‹_› _) _ _ _ | exact (cell_stored _ (by first | (dsimp only; omega) | (simp; done) | (simp; omega)) _ _).trans ‹_› | exact Pair.drew (Pair.below ‹_› (below1 _ _)) | exact Pair.below ‹_› (below1 _ _) | exact Pair.far ‹_› (by omega) hb1 | exact Pair.new .. | exact Pair.new1 .. | exact Pair.new2 .. | (go_keep; done)) | (go_keep; done))
      (first
        | (go_at_call_of 39 (s0); refine (G0.out _ bw'.out.drew).mono ?_; rintro e w1 ⟨v1, rfl, d1, hb1⟩; have hz1 : w.heap.size + 3 ≤ w1.heap.size := (by have := hb1.size; simp at this; omega))
        | (go_at_call_of 39 (s1); refine (G1.out _ (bw'.out.drew.trans (hb1.mono (B' := w.heap.size) (by simp; omega)))).mono ?_; rintro e w2 ⟨v2, rfl, d2, hb2⟩; have d1' := d1.below hb2; have hz2 := hb2.size)
        | (go_at_call 38; refine (rplusN_any v1 v2 x y _ d1' d2 k0 k1).mono ?_; rintro e w3 ⟨v3, rfl, d3, hb3⟩; have hz3 := hb3.size)
        | (go_at_call 37; refine (FromN_any v3 _ _ d3 ks).mono ?_; rintro e w4 ⟨v4, rfl, d4, hb4⟩; have hz4 := hb4.size)
        | (go_at_call 29; refine (WholeN_any n0 v4 _ _ d4 mw).mono ?_; rintro e w5 ⟨v5, rfl, hi5, hb5⟩; obtain ⟨p5, n5, c5, rfl, hi5⟩ := hi5.shape; have hpr := Pair.below (by go_split_ands; assumption) hb5; obtain ⟨_, _, q0, q1, q2, q3⟩ := hpr.cells))
    go_wp2
    exact bodyPost_ret (v := .agg #[.bool (decide (sg n0 (x + y) < 0)), .slice p5 n5 c5]) (by simp [results, Tryz.results23, go_sem, q0, q1]) rfl
      ⟨_, rfl, by rw [← Hs.out]; exact hi5.stored hpr _ _ _ _, Below.stored (((((bw'.out.drew.trans (hb1.mono (B' := w.heap.size) (by simp; omega))).trans (hb2.mono (B' := w.heap.size) (by omega))).trans (hb3.mono (B' := w.heap.size) (by omega))).trans (hb4.mono (B' := w.heap.size) (by omega))).trans (hb5.mono (B' := w.heap.size) (by omega))) (by omega) _ _⟩
  · have hb : (n0 == n1) = false := beq_eq_false_iff_ne.2 hn
    go_enter Tryz.func23, Tryz.ntmps23
    go_wp2_with fail
    generalize hW : World.alloc (World.alloc (World.alloc w _) _) _ = W3
    have bw : Below w.heap.size w W3 := by rw [← hW]; exact ((below1 _ _).alloc (by simp) _).alloc (by simp; omega) _
    have hp : Pair W3 (w.heap.size + 1 + 1) 26 := by rw [← hW]; exact Pair.new2 ..
    obtain ⟨c00, c01, c10, c11, -⟩ : Two W3 w.heap.size (.bool n0) s0 (.bool n1) s1 := by rw [← hW]; exact (Two.new w _ _ _ _ _).below (below1 _ _)
    have z3 : w.heap.size + 3 ≤ W3.heap.size := by rw [← hW]; simp
    have bw' := hid bw
    clear hW bw
    by_cases hxy : x < y
    · have Hs : Hid (sg n1 (y - x) = r) := by unfold Hid; rw [sg_add_lt hn hxy, Hr.out]
      have mw : sz W (y - x) ≤ 2199023255552 := Nat.le_trans (sz_mono W2 (by omega)) (Nat.le_trans m1 (by omega))
      have ks : sz D (y - x) ≤ 8796093022208 := Nat.le_trans (sz4 _) (by omega)
      have hc := GO.out W3 bw'.out
      rw [ord_lt (by omega)] at hc
      have Hc := hid hc
      clear hc
      refine Hc.out.mono ?_
      rintro e W4 ⟨rfl, hb0⟩
      have hz0 := hb0.size
      have e00 := (hb0.cell (p := ⟨w.heap.size, 0, none⟩) (by show w.heap.size < _; omega)).trans c00
      have e01 := (hb0.cell (p := ⟨w.heap.size, 1, none⟩) (by show w.heap.size < _; omega)).trans c01
      have e10 := (hb0.cell (p := ⟨w.heap.size + 1, 0, none⟩) (by show w.heap.size + 1 < _; omega)).trans c10
      have e11 := (hb0.cell (p := ⟨w.heap.size + 1, 1, none⟩) (by show w.heap.size + 1 < _; omega)).trans c11
      have hp4 := hp.below hb0
      have bw4 := hid (bw'.out.trans (hb0.mono (B' := w.heap.size) (by omega)))
      clear c00 c01 c10 c11 hp hb0
      go_wp2_with fail
      go_region_held3 (fun w' => w'.cell? ⟨w.heap.size, 0, none⟩ = some (.bool n0) ∧ w'.cell? ⟨w.heap.size, 1, none⟩ = some s0 ∧ w'.cell? ⟨w.heap.size + 1, 0, none⟩ = some (.bool n1) ∧ w'.cell? ⟨w.heap.size + 1, 1, none⟩ = some s1 ∧ Pair w' (w.heap.size + 1 + 1) 26)
        (first | (go_split_ands; (try dsimp only); (repeat' apply And.intro) <;> first | assumption | exact Pair.drew ‹_› | exact Pair.below ‹_› hb9 | exact Pair.below ‹_› hb8 | exact Pair.below ‹_› hb7 | exact Pair.below ‹_› hb6 | exact Pair.below ‹_› hb5 | exact Pair.below ‹_› hb4 | exact Pair.below ‹_› hb3 | exact Pair.below ‹_› hb2 | exact Pair.below ‹_› hb1 | exact (hb9.cell (by first | omega | (simp; omega) | (simp; done))).trans ‹_› | exact (hb8.cell (by first | omega | (simp; omega) | (simp; done))).trans ‹_› | exact (hb7.cell (by first | omega | (simp; omega) | (simp; done))).trans ‹_› | exact (hb6.cell (by first | omega | (simp; omega) | (simp; done))).trans ‹_› | exact (hb5.cell (by first | omega | (simp; omega) | (simp; done))).trans ‹_› | exact (hb4.cell (by first | omega | (simp; omega) | (simp; done))).trans ‹_› | exact (hb3.cell (by first | omega | (simp; omega) | (simp; done))).trans ‹_› | exact (hb2.cell (by first | omega | (simp; omega) | (simp; done))).trans ‹_› | exact (hb1.cell (by first | omega | (simp; omega) | (simp; done))).trans ‹_› | exact Pair.set1 (Pair.set0 ‹_› _) _ _ _ | exact (cell_stored _ (by first | (dsimp only; omega) | (simp; done) | (simp; omega)) _ _).trans ‹_› | exact Pair.drew (Pair.below ‹_› (below1 _ _)) | exact Pair.below ‹_› (below1 _ _) | exact Pair.far ‹_› (by omega) hb1 | exact Pair.new .. | exact Pair.new1 .. | exact Pair.new2 .. | (go_keep; done)) | (go_keep; done))
        (first
          | (go_at_call_of 39 (s1); refine (G1.out _ bw4.out.drew).mono ?_; rintro e w1 ⟨v1, rfl, d1, hb1⟩; have hz1 : w.heap.size + 3 ≤ w1.heap.size := (by have := hb1.size; simp at this; omega))
          | (go_at_call_of 39 (s0); refine (G0.out _ (bw4.out.drew.trans (hb1.mono (B' := w.heap.size) (by simp; omega)))).mono ?_; rintro e w2 ⟨v2, rfl, d2, hb2⟩; have d1' := d1.below hb2; have hz2 := hb2.size)
          | (go_at_call 41; refine (rlessN_any v1 v2 y x _ d1' d2 k1 (by omega)).mono ?_; rintro e w3 ⟨v3, rfl, d3, hb3⟩; have hz3 := hb3.size)
          | (go_at_call 37; refine (FromN_any v3 _ _ d3 ks).mono ?_; rintro e w4 ⟨v4, rfl, d4, hb4⟩; have hz4 := hb4.size)
          | (go_at_call 29; refine (WholeN_any n1 v4 _ _ d4 mw).mono ?_; rintro e w5 ⟨v5, rfl, hi5, hb5⟩; obtain ⟨p5, n5, c5, rfl, hi5⟩ := hi5.shape; have hpr := Pair.below (by go_split_ands; assumption) hb5; obtain ⟨_, _, q0, q1, q2, q3⟩ := hpr.cells))
      go_wp2
      exact bodyPost_ret (v := .agg #[.bool (decide (sg n1 (y - x) < 0)), .slice p5 n5 c5]) (by simp [results, Tryz.results23, go_sem, q0, q1]) rfl
        ⟨_, rfl, by rw [← Hs.out]; exact hi5.stored hpr _ _ _ _, Below.stored (((((bw4.out.drew.trans (hb1.mono (B' := w.heap.size) (by simp; omega))).trans (hb2.mono (B' := w.heap.size) (by omega))).trans (hb3.mono (B' := w.heap.size) (by omega))).trans (hb4.mono (B' := w.heap.size) (by omega))).trans (hb5.mono (B' := w.heap.size) (by omega))) (by omega) _ _⟩
    · have Hs : Hid (sg n0 (x - y) = r) := by unfold Hid; rw [sg_add_ge hn hxy, Hr.out]
      have mw : sz W (x - y) ≤ 2199023255552 := Nat.le_trans (sz_mono W2 (by omega)) (Nat.le_trans m0 (by omega))
      have ks : sz D (x - y) ≤ 8796093022208 := Nat.le_trans (sz4 _) (by omega)
      have hc := GO.out W3 bw'.out
      obtain ⟨o, ho, hneg⟩ : ∃ o, o = ord (x : Int) y ∧ 0 ≤ o := ⟨_, rfl, by unfold ord; (repeat' split) <;> omega⟩
      rw [← ho] at hc
      have Hc := hid hc
      clear hc ho
      refine Hc.out.mono ?_
      rintro e W4 ⟨rfl, hb0⟩
      have hz0 := hb0.size
      have e00 := (hb0.cell (p := ⟨w.heap.size, 0, none⟩) (by show w.heap.size < _; omega)).trans c00
      have e01 := (hb0.cell (p := ⟨w.heap.size, 1, none⟩) (by show w.heap.size < _; omega)).trans c01
      have e10 := (hb0.cell (p := ⟨w.heap.size + 1, 0, none⟩) (by show w.heap.size + 1 < _; omega)).trans c10
      have e11 := (hb0.cell (p := ⟨w.heap.size + 1, 1, none⟩) (by show w.heap.size + 1 < _; omega)).trans c11
      have hp4 := hp.below hb0
      have bw4 := hid (bw'.out.trans (hb0.mono (B' := w.heap.size) (by omega)))
      clear c00 c01 c10 c11 hp hb0
      go_wp2_with fail
      go_region_held3 (fun w' => w'.cell? ⟨w.heap.size, 0, none⟩ = some (.bool n0) ∧ w'.cell? ⟨w.heap.size, 1, none⟩ = some s0 ∧ w'.cell? ⟨w.heap.size + 1, 0, none⟩ = some (.bool n1) ∧ w'.cell? ⟨w.heap.size + 1, 1, none⟩ = some s1 ∧ Pair w' (w.heap.size + 1 + 1) 26)
        (first | (go_split_ands; (try dsimp only); (repeat' apply And.intro) <;> first | assumption | exact Pair.drew ‹_› | exact Pair.below ‹_› hb9 | exact Pair.below ‹_› hb8 | exact Pair.below ‹_› hb7 | exact Pair.below ‹_› hb6 | exact Pair.below ‹_› hb5 | exact Pair.below ‹_› hb4 | exact Pair.below ‹_› hb3 | exact Pair.below ‹_› hb2 | exact Pair.below ‹_› hb1 | exact (hb9.cell (by first | omega | (simp; omega) | (simp; done))).trans ‹_› | exact (hb8.cell (by first | omega | (simp; omega) | (simp; done))).trans ‹_› | exact (hb7.cell (by first | omega | (simp; omega) | (simp; done))).trans ‹_› | exact (hb6.cell (by first | omega | (simp; omega) | (simp; done))).trans ‹_› | exact (hb5.cell (by first | omega | (simp; omega) | (simp; done))).trans ‹_› | exact (hb4.cell (by first | omega | (simp; omega) | (simp; done))).trans ‹_› | exact (hb3.cell (by first | omega | (simp; omega) | (simp; done))).trans ‹_› | exact (hb2.cell (by first | omega | (simp; omega) | (simp; done))).trans ‹_› | exact (hb1.cell (by first | omega | (simp; omega) | (simp; done))).trans ‹_› | exact Pair.set1 (Pair.set0 ‹_› _) _ _ _ | exact (cell_stored _ (by first | (dsimp only; omega) | (simp; done) | (simp; omega)) _ _).trans ‹_› | exact Pair.drew (Pair.below ‹_› (below1 _ _)) | exact Pair.below ‹_› (below1 _ _) | exact Pair.far ‹_› (by omega) hb1 | exact Pair.new .. | exact Pair.new1 .. | exact Pair.new2 .. | (go_keep; done)) | (go_keep; done))
        (first
          | (go_at_call_of 39 (s0); refine (G0.out _ bw4.out.drew).mono ?_; rintro e w1 ⟨v1, rfl, d1, hb1⟩; have hz1 : w.heap.size + 3 ≤ w1.heap.size := (by have := hb1.size; simp at this; omega))
          | (go_at_call_of 39 (s1); refine (G1.out _ (bw4.out.drew.trans (hb1.mono (B' := w.heap.size) (by simp; omega)))).mono ?_; rintro e w2 ⟨v2, rfl, d2, hb2⟩; have d1' := d1.below hb2; have hz2 := hb2.size)
          | (go_at_call 41; refine (rlessN_any v1 v2 x y _ d1' d2 k0 (by omega)).mono ?_; rintro e w3 ⟨v3, rfl, d3, hb3⟩; have hz3 := hb3.size)
          | (go_at_call 37; refine (FromN_any v3 _ _ d3 ks).mono ?_; rintro e w4 ⟨v4, rfl, d4, hb4⟩; have hz4 := hb4.size)
          | (go_at_call 29; refine (WholeN_any n0 v4 _ _ d4 mw).mono ?_; rintro e w5 ⟨v5, rfl, hi5, hb5⟩; obtain ⟨p5, n5, c5, rfl, hi5⟩ := hi5.shape; have hpr := Pair.below (by go_split_ands; assumption) hb5; obtain ⟨_, _, q0, q1, q2, q3⟩ := hpr.cells))
      go_wp2
      exact bodyPost_ret (v := .agg #[.bool (decide (sg n0 (x - y) < 0)), .slice p5 n5 c5]) (by simp [results, Tryz.results23, go_sem, q0, q1]) rfl
        ⟨_, rfl, by rw [← Hs.out]; exact hi5.stored hpr _ _ _ _, Below.stored (((((bw4.out.drew.trans (hb1.mono (B' := w.heap.size) (by simp; omega))).trans (hb2.mono (B' := w.heap.size) (by omega))).trans (hb3.mono (B' := w.heap.size) (by omega))).trans (hb4.mono (B' := w.heap.size) (by omega))).trans (hb5.mono (B' := w.heap.size) (by omega))) (by omega) _ _⟩
end Go.Proofs.YtjfehknilofdjaaGreat
/- elenchusref01.Neg, Sub, Sign, Cmp, Of. -/
namespace Go.Proofs.YtjfehknilofdjaaGreat
open Go.RowKit Big

theorem IntAt.raw {w : World} {v : Value} {z : Int} (h : IntAt w v z) (hs : sz W z.natAbs ≤ 1099511627776) : RawAt w v z := by
  obtain ⟨s, rfl, ha⟩ := h
  refine ⟨_, s, _, rfl, ha, small_dig W2 _, hs, ?_⟩
  rw [val_dig W2]
  unfold sg
  by_cases hz : z < 0 <;> simp [hz] <;> omega
theorem RawAt.sz {w : World} {v : Value} {z : Int} (h : RawAt w v z) : Big.sz W z.natAbs ≤ 1099511627776 := by
  obtain ⟨neg, s, l, rfl, ha, hs, hl, rfl⟩ := h
  rw [sg_natAbs]
  exact Nat.le_trans (sz_val W2 hs) hl

set_option maxHeartbeats 800000 in
theorem RNeg_any (v : Value) (z : Int) (w : World) (h : RawAt w v z) : Calls Tryz.prog 45 #[v] w (RInt (-z) w) := by
  obtain ⟨neg, s, l, rfl, ha, hs, hl, rfl⟩ := h
  have g : ∀ o o', Calls Tryz.prog 29 #[.bool (!neg), s] ((w.alloc o).alloc o') (RInt (-sg neg (val W l)) ((w.alloc o).alloc o')) := fun o o' => by
    have := Whole_any (!neg) s l _ ((ha.alloc o).alloc o') hs (by omega)
    rwa [show sg (!neg) (val W l) = -sg neg (val W l) by unfold sg; cases neg <;> simp] at this
  have G := hid g
  generalize -sg neg (val W l) = r at *
  clear g ha hs hl
  go_enter Tryz.func45, Tryz.ntmps45
  go_wp2_with fail
  refine (G.out _ _).mono ?_
  rintro e w2 ⟨v2, rfl, hi2, hb2⟩
  obtain ⟨p2, n2, c2, rfl, hi2⟩ := hi2.shape
  have hpr : Pair w2 (w.heap.size + 1) 26 := Pair.below (Pair.new1 ..) hb2
  obtain ⟨_, _, q0, q1, q2, q3⟩ := hpr.cells
  have bw : Below w.heap.size w w2 := ((below1 _ _).alloc (by simp) _).trans (hb2.mono (B' := w.heap.size) (by simp; omega))
  have Hi := hid hi2
  clear hb2 hi2
  go_wp2
  exact bodyPost_ret (v := .agg #[.bool (decide (r < 0)), .slice p2 n2 c2]) (by simp [results, Tryz.results45, go_sem, q0, q1]) rfl
    ⟨_, rfl, Hi.out.stored hpr _ _ _ _, Below.stored bw (by omega) _ _⟩

set_option maxHeartbeats 1600000 in
set_option maxRecDepth 100000 in
theorem RSub_any (v0 v1 : Value) (a b : Int) (w : World) (h0 : RawAt w v0 a) (h1 : RawAt w v1 b) : Calls Tryz.prog 28 #[v0, v1] w (RInt (a - b) w) := by
  have g1 : ∀ W', Below w.heap.size w W' → Calls Tryz.prog 45 #[v1] W' (RInt (-b) W') := fun W' hb => RNeg_any v1 b W' (h1.below hb)
  have g2 : ∀ W' v, Below w.heap.size w W' → IntAt W' v (-b) → Calls Tryz.prog 23 #[v0, v] W' (RInt (a - b) W') := fun W' v hb hv => by
    have := RAdd_any v0 v a (-b) W' (h0.below hb) (hv.raw (by rw [Int.natAbs_neg]; exact h1.sz))
    rwa [show a + -b = a - b by omega] at this
  have G1 := hid g1; have G2 := hid g2
  obtain ⟨n0, s0, l0, rfl, a0, -⟩ := id h0
  obtain ⟨n1, s1, l1, rfl, a1, -⟩ := id h1
  obtain ⟨p0, c0, rfl, -⟩ := a0
  obtain ⟨p1, c1, rfl, -⟩ := a1
  generalize a - b = r at *
  clear g1 g2 h0 h1
  generalize -b = nb at *
  go_enter Tryz.func28, Tryz.ntmps28
  go_wp2_with fail
  generalize hW : World.alloc (World.alloc (World.alloc w _) _) _ = W3
  have bw : Below w.heap.size w W3 := by rw [← hW]; exact ((below1 _ _).alloc (by simp) _).alloc (by simp; omega) _
  have hp : Pair W3 (w.heap.size + 1 + 1) 26 := by rw [← hW]; exact Pair.new2 ..
  obtain ⟨c00, c01, c10, c11, -⟩ : Two W3 w.heap.size (.bool n0) (.slice p0 l0.length c0) (.bool n1) (.slice p1 l1.length c1) := by rw [← hW]; exact (Two.new w _ _ _ _ _).below (below1 _ _)
  have z3 : w.heap.size + 3 ≤ W3.heap.size := by rw [← hW]; simp
  have bw' := hid bw
  clear hW bw
  go_region_held3 (fun w' => w'.cell? ⟨w.heap.size, 0, none⟩ = some (.bool n0) ∧ w'.cell? ⟨w.heap.size, 1, none⟩ = some (.slice p0 l0.length c0) ∧ w'.cell? ⟨w.heap.size + 1, 0, none⟩ = some (.bool n1) ∧ w'.cell? ⟨w.heap.size + 1, 1, none⟩ = some (.slice p1 l1.length c1) ∧ Pair w' (w.heap.size + 1 + 1) 26)
    (first | (go_split_ands; (try dsimp only); (repeat' apply And.intro) <;> first | assumption | exact Pair.drew ‹_› | exact Pair.below ‹_› hb9 | exact Pair.below ‹_› hb8 | exact Pair.below ‹_› hb7 | exact Pair.below ‹_› hb6 | exact Pair.below ‹_› hb5 | exact Pair.below ‹_› hb4 | exact Pair.below ‹_› hb3 | exact Pair.below ‹_› hb2 | exact Pair.below ‹_› hb1 | exact (hb9.cell (by first | omega | (simp; omega) | (simp; done))).trans ‹_› | exact (hb8.cell (by first | omega | (simp; omega) | (simp; done))).trans ‹_› | exact (hb7.cell (by first | omega | (simp; omega) | (simp; done))).trans ‹_› | exact (hb6.cell (by first | omega | (simp; omega) | (simp; done))).trans ‹_› | exact (hb5.cell (by first | omega | (simp; omega) | (simp; done))).trans ‹_› | exact (hb4.cell (by first | omega | (simp; omega) | (simp; done))).trans ‹_› | exact (hb3.cell (by first | omega | (simp; omega) | (simp; done))).trans ‹_› | exact (hb2.cell (by first | omega | (simp; omega) | (simp; done))).trans ‹_› | exact (hb1.cell (by first | omega | (simp; omega) | (simp; done))).trans ‹_› | exact Pair.set1 (Pair.set0 ‹_› _) _ _ _ | exact (cell_stored _ (by first | (dsimp only; omega) | (simp; done) | (simp; omega)) _ _).trans ‹_› | exact Pair.drew (Pair.below ‹_› (below1 _ _)) | exact Pair.below ‹_› (below1 _ _) | exact Pair.far ‹_› (by omega) hb1 | exact Pair.new .. | exact Pair.new1 .. | exact Pair.new2 .. | (go_keep; done)) | (go_keep; done))
    (first
      | (go_at_call 45; refine (G1.out _ bw'.out.drew).mono ?_; rintro e w1 ⟨v1, rfl, hi1, hb1⟩; have hz1 : w.heap.size + 3 ≤ w1.heap.size := (by have := hb1.size; simp at this; omega); obtain ⟨p3, n3, c3, rfl, hi1⟩ := hi1.shape)
      | (go_at_call 23; refine (G2.out _ _ (bw'.out.drew.trans (hb1.mono (B' := w.heap.size) (by simp; omega))) hi1).mono ?_; rintro e w2 ⟨v2, rfl, hi2, hb2⟩; obtain ⟨p2, n2, c2, rfl, hi2⟩ := hi2.shape; have hpr := Pair.below (by go_split_ands; assumption) hb2; obtain ⟨_, _, q0, q1, q2, q3⟩ := hpr.cells))
  go_wp2
  exact bodyPost_ret (v := .agg #[.bool (decide (r < 0)), .slice p2 n2 c2]) (by simp [results, Tryz.results28, go_sem, q0, q1]) rfl
    ⟨_, rfl, hi2.stored hpr _ _ _ _, Below.stored ((bw'.out.drew.trans (hb1.mono (B' := w.heap.size) (by simp; omega))).trans (hb2.mono (B' := w.heap.size) (by omega))) (by omega) _ _⟩
end Go.Proofs.YtjfehknilofdjaaGreat
/- elenchusref01.Sign, Cmp, Of. -/
namespace Go.Proofs.YtjfehknilofdjaaGreat
open Go.RowKit Big

set_option maxHeartbeats 800000 in
theorem RSign_any (v : Value) (z : Int) (w : World) (h : RawAt w v z) : Calls Tryz.prog 27 #[v] w (RNum .i64 z.sign w) := by
  obtain ⟨neg, s, l, rfl, ha, hs, hl, hz⟩ := h
  have g : ∀ o, Calls Tryz.prog 29 #[.bool neg, s] (w.alloc o) (RInt z (w.alloc o)) := fun o => by
    rw [hz]; exact Whole_any neg s l _ (ha.alloc o) hs (by omega)
  have G := hid g
  clear g hs hl hz
  obtain ⟨p, c, rfl, -⟩ := ha
  go_enter Tryz.func27, Tryz.ntmps27
  go_wp2_with fail
  refine (G.out _).mono ?_
  rintro e w2 ⟨v2, rfl, ⟨s2, rfl, hi2⟩, hb2⟩
  have hlen := sz_eq_zero (n := z.natAbs) W2
  unfold sz at hlen
  obtain ⟨p2, c2, rfl, -⟩ := hi2
  have hpr : Pair w2 w.heap.size 26 := Pair.below (Pair.new ..) hb2
  obtain ⟨_, _, q0, q1, q2, q3⟩ := hpr.cells
  have bw : Below w.heap.size w w2 := (below1 _ _).trans (hb2.mono (B' := w.heap.size) (by simp))
  clear hb2 hpr
  rcases Int.lt_trichotomy z 0 with hz | hz | hz
  · have hs : Hid (z.sign = -1) := Int.sign_eq_neg_one_of_neg hz
    clear hlen
    go_wp2
    go_ret
    exact ⟨by rw [hs.out]; rfl, Below.stored bw (by omega) _ _⟩
  · subst hz
    have hs : Hid ((0 : Int).sign = 0) := rfl
    have h0 : (dig W (0 : Int).natAbs).length = 0 := rfl
    rw [h0]
    clear hlen h0
    go_wp2
    go_ret
    exact ⟨by rw [hs.out]; rfl, Below.stored bw (by omega) _ _⟩
  · have hs : Hid (z.sign = 1) := Int.sign_eq_one_of_pos hz
    have hneg : ¬ z < 0 := by omega
    obtain ⟨n, hn⟩ : ∃ n, n = (dig W z.natAbs).length := ⟨_, rfl⟩
    rw [← hn] at hlen ⊢
    have hn0 : ((n : Int) == 0) = false := beq_eq_false_iff_ne.2 (by omega)
    clear hlen hn
    go_wp2
    go_ret
    exact ⟨by rw [hs.out]; rfl, Below.stored bw (by omega) _ _⟩

theorem small_one {x : Nat} (h : x < W) : Small W [x] := small_cons h (small_nil W)

theorem At.one1 (w : World) (o : Obj) (k : IntKind) (x : Nat) (t : TypeId) : At ((w.alloc o).alloc (.cells #[.int k (x : Nat)] t)) k (.slice (some ⟨w.heap.size + 1, 0, none⟩) 1 1) [x] := by
  have := At.one (w.alloc o) k x t
  rwa [size_alloc] at this
theorem sz_word {n : Nat} (h : n < W) : sz W n ≤ 1 := sz_le_of_lt W2 (by rwa [Nat.pow_one])

set_option maxHeartbeats 1600000 in
theorem ROf_any (z : Int) (w : World) (h0 : -9223372036854775808 ≤ z) (h1 : z ≤ 9223372036854775807) : Calls Tryz.prog 14 #[.int .i64 z] w (RInt z w) := by
  by_cases hz : z < 0
  · obtain ⟨n, hn⟩ : ∃ n : Nat, z = -(n : Int) - 1 := ⟨(-z - 1).toNat, by omega⟩
    have hnW : n < W := by unfold W; omega
    have hn' : n ≤ 9223372036854775807 := by omega
    subst hn
    clear h0 h1
    have hsz : sz W (sg true n).natAbs ≤ 1099511627776 := by rw [sg_natAbs]; exact Nat.le_trans (sz_word hnW) (by omega)
    have hsz1 : sz W (sg false 1).natAbs ≤ 1099511627776 := by rw [sg_natAbs]; exact Nat.le_trans (sz_word (by decide)) (by omega)
    have g1 : ∀ o o', Calls Tryz.prog 29 #[.bool true, .slice (some ⟨w.heap.size + 1, 0, none⟩) 1 1] ((w.alloc o).alloc (.cells #[.int .u64 (n : Nat)] o')) (RInt (sg true n) ((w.alloc o).alloc (.cells #[.int .u64 (n : Nat)] o'))) := fun o o' => by
      have := Whole_any true _ [n] _ (At.one1 w o .u64 n o') (small_one hnW) (by simp)
      rwa [show val W [n] = n by simp [val]] at this
    have g2 : ∀ W' o', Calls Tryz.prog 29 #[.bool false, .slice (some ⟨World.heap W' |>.size, 0, none⟩) 1 1] (W'.alloc (.cells #[.int .u64 1] o')) (RInt (sg false 1) (W'.alloc (.cells #[.int .u64 1] o'))) := fun W' o' => by
      have := Whole_any false _ [1] _ (At.oneI W' .u64 1 1 o' rfl) (small_one (by decide)) (by simp)
      rwa [show val W [1] = 1 by simp [val]] at this
    have g3 : ∀ W' v v', IntAt W' v (sg true n) → IntAt W' v' (sg false 1) → Calls Tryz.prog 28 #[v, v'] W' (RInt (-(n : Int) - 1) W') := fun W' v v' h h' => by
      have := RSub_any v v' _ _ W' (h.raw hsz) (h'.raw hsz1)
      rwa [show sg true n - sg false 1 = -(n : Int) - 1 by simp [sg]] at this
    have G1 := hid g1; have G2 := hid g2; have G3 := hid g3
    clear g1 g2 g3 hsz hsz1
    obtain ⟨r, hr⟩ : ∃ r, r = -(n : Int) - 1 := ⟨_, rfl⟩
    have G3' : Hid (∀ W' v v', IntAt W' v (sg true n) → IntAt W' v' (sg false 1) → Calls Tryz.prog 28 #[v, v'] W' (RInt r W')) := by rw [hr]; exact G3
    have G4 : Hid (∀ e w', RInt r w e w' → RInt (-(n : Int) - 1) w e w') := by rw [hr]; exact fun _ _ h => h
    refine Calls.mono ?_ G4.out
    clear hr G3
    generalize sg true n = a at *
    generalize sg false 1 = b at *
    go_enter Tryz.func14, Tryz.ntmps14
    go_wp2_with fail
    refine (G1.out _ _).mono ?_
    rintro e w1 ⟨v1, rfl, hi1, hb1⟩
    go_wp2_with fail
    refine (G2.out _ _).mono ?_
    rintro e w2 ⟨v2, rfl, hi2, hb2⟩
    have hi1' := hi1.below ((below1 _ _).trans (hb2.mono (B' := w1.heap.size) (by simp)))
    go_wp2_with fail
    refine (G3'.out _ _ _ hi1' hi2).mono ?_
    rintro e w3 ⟨v3, rfl, hi3, hb3⟩
    obtain ⟨p3, n3, c3, rfl, hi3⟩ := hi3.shape
    have z1 : w.heap.size + 2 ≤ w1.heap.size := by have := hb1.size; simp at this; omega
    have z2 : w.heap.size + 3 ≤ w2.heap.size := by have := hb2.size; simp at this; omega
    have b12 : Below w1.heap.size w1 w2 := (below1 _ _).trans (hb2.mono (B' := w1.heap.size) (by simp))
    have hpr : Pair w3 w.heap.size 26 := Pair.below (Pair.below (Pair.below (Pair.below (Pair.new ..) (below1 _ _)) hb1) b12) hb3
    obtain ⟨_, _, q0, q1, q2, q3⟩ := hpr.cells
    have bw : Below w.heap.size w w3 := ((((below1 _ _).alloc (by simp) _).trans (hb1.mono (B' := w.heap.size) (by simp; omega))).trans (b12.mono (B' := w.heap.size) (by omega))).trans (hb3.mono (B' := w.heap.size) (by omega))
    have Hi := hid hi3
    clear hb1 hb2 hb3 b12 hi1 hi1' hi2 hi3
    go_wp2
    exact bodyPost_ret (v := .agg #[.bool (decide (r < 0)), .slice p3 n3 c3]) (by simp [results, Tryz.results14, go_sem, q0, q1]) rfl
      ⟨_, rfl, Hi.out.stored hpr _ _ _ _, Below.stored bw (by omega) _ _⟩
  · obtain ⟨n, hn⟩ : ∃ n : Nat, z = (n : Int) := ⟨z.natAbs, by omega⟩
    subst hn
    have hnW : n < W := by unfold W; omega
    have g1 : ∀ o o', Calls Tryz.prog 29 #[.bool false, .slice (some ⟨w.heap.size + 1, 0, none⟩) 1 1] ((w.alloc o).alloc (.cells #[.int .u64 (n : Nat)] o')) (RInt (n : Int) ((w.alloc o).alloc (.cells #[.int .u64 (n : Nat)] o'))) := fun o o' => by
      have := Whole_any false _ [n] _ (At.one1 w o .u64 n o') (small_one hnW) (by simp)
      rwa [show sg false (val W [n]) = (n : Int) by simp [val, sg]] at this
    have G1 := hid g1
    clear g1
    go_enter Tryz.func14, Tryz.ntmps14
    go_wp2_with fail
    refine (G1.out _ _).mono ?_
    rintro e w1 ⟨v1, rfl, hi1, hb1⟩
    obtain ⟨p3, n3, c3, rfl, hi1⟩ := hi1.shape
    have z1 : w.heap.size + 2 ≤ w1.heap.size := by have := hb1.size; simp at this; omega
    have hpr : Pair w1 w.heap.size 26 := Pair.below (Pair.below (Pair.new ..) (below1 _ _)) hb1
    obtain ⟨_, _, q0, q1, q2, q3⟩ := hpr.cells
    have bw : Below w.heap.size w w1 := ((below1 _ _).alloc (by simp) _).trans (hb1.mono (B' := w.heap.size) (by simp; omega))
    have Hi := hid hi1
    clear hb1 hi1
    go_wp2
    exact bodyPost_ret (v := .agg #[.bool (decide ((n : Int) < 0)), .slice p3 n3 c3]) (by simp [results, Tryz.results14, go_sem, q0, q1]) rfl
      ⟨_, rfl, Hi.out.stored hpr _ _ _ _, Below.stored bw (by omega) _ _⟩
end Go.Proofs.YtjfehknilofdjaaGreat
/- whole.divide of numbers of one word. -/
namespace Go.Proofs.YtjfehknilofdjaaGreat
open Go.RowKit Big

def RTwoNat (q r : Nat) (w : World) (e : Ending) (w' : World) : Prop := ∃ v v', e = .returned (.tuple #[v, v']) ∧ At w' .u64 v (dig W q) ∧ At w' .u64 v' (dig W r) ∧ Below w.heap.size w w'

theorem head_dig {n : Nat} (h : n < W) : (dig W n).headD 0 = n := by
  by_cases h0 : n = 0
  · subst h0; rfl
  · rw [dig_one W2 (by omega) h]; rfl

set_option maxRecDepth 100000 in
set_option maxHeartbeats 1600000 in
theorem divide_small (v0 v1 : Value) (n m : Nat) (w : World) (h0 : At w .u64 v0 (dig W n)) (h1 : At w .u64 v1 (dig W m)) (hn : n < W) (hm : m < W) (hm0 : 0 < m) :
    Calls Tryz.prog 63 #[v0, v1] w (RTwoNat (n / m) (n % m) w) := by
  have g0 : ∀ W', Below w.heap.size w W' → Calls Tryz.prog 72 #[v0] W' fun e w' => e = .returned (.int .u64 (n : Nat)) ∧ W' = w' := fun W' hb => by
    have := word_any v0 _ W' (h0.below hb); rwa [head_dig hn] at this
  have g1 : ∀ W', Below w.heap.size w W' → Calls Tryz.prog 72 #[v1] W' fun e w' => e = .returned (.int .u64 (m : Nat)) ∧ W' = w' := fun W' hb => by
    have := word_any v1 _ W' (h1.below hb); rwa [head_dig hm] at this
  have s0 : (dig W n).length ≤ 1 := sz_word hn
  have s1 : (dig W m).length ≤ 1 := sz_word hm
  have G0 := hid g0; have G1 := hid g1
  clear g0 g1
  obtain ⟨p0, c0, rfl, -⟩ := h0
  obtain ⟨p1, c1, rfl, -⟩ := h1
  have o0 : ∀ W', Calls Tryz.prog 61 #[.int .u64 ((n / m : Nat) : Int)] W' (RAt .u64 (dig W (n / m)) W') := fun W' => ownWord_any (n / m) W' (Nat.lt_of_le_of_lt (Nat.div_le_self n m) hn)
  have o1 : ∀ W', Calls Tryz.prog 61 #[.int .u64 ((n % m : Nat) : Int)] W' (RAt .u64 (dig W (n % m)) W') := fun W' => ownWord_any (n % m) W' (Nat.lt_trans (Nat.mod_lt n hm0) hm)
  have O0 := hid o0; have O1 := hid o1
  clear o0 o1
  have hq : n / m < W := Nat.lt_of_le_of_lt (Nat.div_le_self n m) hn
  have td' : IntKind.u64.wrap ((n : Int) / (m : Int)) = ((n / m : Nat) : Int) := by
    rw [← Int.natCast_ediv]
    generalize n / m = q at *
    unfold W at hq
    simp only [IntKind.wrap, IntKind.bits, IntKind.signed]
    simp; omega
  have tm' : ((n : Int) % (m : Int)) = ((n % m : Nat) : Int) := (Int.natCast_emod n m).symm
  have hb : ((m : Int) == 0) = false := beq_eq_false_iff_ne.2 (by omega)
  have Td' := hid td'; have Tm' := hid tm'
  clear td' tm' hq
  generalize (dig W n).length = k0 at *
  generalize (dig W m).length = k1 at *
  go_enter Tryz.func63, Tryz.ntmps63
  go_wp2_with fail
  refine (G0.out _ (Below.refl _ _)).mono ?_
  rintro e w' ⟨rfl, rfl⟩
  go_wp2_with fail
  refine (G1.out _ (Below.refl _ _)).mono ?_
  rintro e w' ⟨rfl, rfl⟩
  go_wp2_with fail
  rw [Td'.out]
  refine (O0.out _).mono ?_
  rintro e w1 ⟨q, rfl, hq, hb1⟩
  go_wp2_with fail
  refine (G0.out _ hb1).mono ?_
  rintro e w' ⟨rfl, rfl⟩
  go_wp2_with fail
  refine (G1.out _ hb1).mono ?_
  rintro e w' ⟨rfl, rfl⟩
  go_wp2_with fail
  rw [Tm'.out]
  refine (O1.out _).mono ?_
  rintro e w2 ⟨r, rfl, hr, hb2⟩
  go_wp2_with fail
  go_ret2
  exact ⟨_, _, rfl, hq.below hb2, hr, hb1.trans (hb2.mono hb1.size)⟩
end Go.Proofs.YtjfehknilofdjaaGreat
/- elenchusref01.Same, SameInt. -/
namespace Go.Proofs.YtjfehknilofdjaaGreat
open Go.RowKit Big

def RDrawn (v : Value) (w : World) (e : Ending) (w' : World) : Prop := e = .returned v ∧ ∃ k, w' = w.drewN k

set_option maxHeartbeats 800000 in
theorem Same_any (v0 v1 : Value) (l0 l1 : List Nat) (w : World) (h0 : At w .u64 v0 l0) (h1 : At w .u64 v1 l1) :
    Calls Tryz.prog 33 #[v0, v1] w (RDrawn (.bool (decide (l0 = l1))) w) := by
  obtain ⟨r, hr⟩ : ∃ r, r = decide (l0 = l1) := ⟨_, rfl⟩
  rw [← hr]
  have Hr := hid hr
  clear hr
  obtain ⟨p0, c0, rfl, a1, a2, a3, a4⟩ := h0
  obtain ⟨p1, c1, rfl, b1, b2, b3, b4⟩ := h1
  unfold maxLen at a2 b2
  by_cases hl : l0.length = l1.length
  · have Hl := hid hl
    rw [hl] at a1 ⊢; clear hl
    go_enter Tryz.func33, Tryz.ntmps33
    go_wp2_with fail
    go_loopw [13] (fun i wr => ∃ (k : Nat), k ≤ l1.length ∧ i = .int .i64 (k : Nat) ∧ Hid (l0.take k = l1.take k) ∧ Hid (∃ j, wr = w.drewN j)) (fun i _ => l1.length - (intOf i).toNat)
    case atStart => exact ⟨0, Nat.zero_le _, rfl, rfl, 0, rfl⟩
    case round =>
      obtain ⟨k, hk, rfl, hd, Hw⟩ := hrel
      by_cases hk0 : k < l1.length
      · have hkl : k < l0.length := by rw [Hl.out]; omega
        obtain ⟨b, off, rfl, hbb, hc0⟩ := a4 (Nat.lt_of_le_of_lt (Nat.zero_le _) hkl)
        obtain ⟨b', off', rfl, hbb', hc1⟩ := b4 (by omega)
        have e0 : wr.cell? ⟨b, off + k, none⟩ = some (.int .u64 (l0[k] : Nat)) := by obtain ⟨j, rfl⟩ := Hw.out; exact hc0 k hkl
        have e1 : wr.cell? ⟨b', off' + k, none⟩ = some (.int .u64 (l1[k] : Nat)) := by obtain ⟨j, rfl⟩ := Hw.out; exact hc1 k (by omega)
        have es : l0[k] = l1[k] → l0.take (k + 1) = l1.take (k + 1) := fun h => by rw [take_succ' l0 k hkl, take_succ' l1 k hk0, hd.out, h]
        have en : l0[k] ≠ l1[k] → decide (l0 = l1) = false := fun h => by simp only [decide_eq_false_iff_not]; rintro rfl; exact h rfl
        generalize l0[k] = x at *
        generalize l1[k] = y at *
        have Es : Hid (x = y → l0.take (k + 1) = l1.take (k + 1)) := es
        have En : Hid (x ≠ y → decide (l0 = l1) = false) := en
        clear a4 b4 hc0 hc1 es en hbb hbb'
        have hlow : (0 : Int) ≤ (k : Int) := by omega
        have hup : (k : Int) < (l1.length : Int) := by omega
        by_cases hxy : x = y
        · subst hxy
          go_wp2
          go_quiet (fail)
          go_wp2
          go_roundw
          case rel => exact ⟨k + 1, by omega, by go_num, Es.out (by trivial), drawn_more Hw.out⟩
          case measure => (simp [intOf] <;> omega)
        · have hb : ((x : Int) != (y : Int)) = true := bne_iff_ne.2 (fun h => hxy (by omega))
          have Hf : Hid (decide (l0 = l1) = false) := En.out hxy
          clear Es En
          go_wp2
          go_quiet (fail)
          go_wp2
          go_ret
          exact ⟨by rw [Hr.out, Hf.out]; rfl, drawn_more Hw.out⟩
      · obtain rfl : k = l1.length := by omega
        have ht : Hid (decide (l0 = l1) = true) := by
          have h := hd.out
          rw [List.take_length, List.take_of_length_le (Nat.le_of_eq Hl.out)] at h
          simpa [Hid] using h
        clear a4 b4 hd
        go_wp2
        go_ret
        exact ⟨by rw [Hr.out, ht.out]; rfl, Hw.out⟩
  · have hb : ((l0.length : Int) != (l1.length : Int)) = true := bne_iff_ne.2 (by omega)
    have Hf : Hid (decide (l0 = l1) = false) := by
      simp only [Hid, decide_eq_false_iff_not]; rintro rfl; exact hl rfl
    clear a4 b4
    go_enter Tryz.func33, Tryz.ntmps33
    go_wp2
    go_ret
    exact ⟨by rw [Hr.out, Hf.out]; rfl, 0, rfl⟩

set_option maxHeartbeats 800000 in
theorem SameInt_raw (n0 n1 : Bool) (s0 s1 : Value) (l0 l1 : List Nat) (w : World) (h0 : At w .u64 s0 l0) (h1 : At w .u64 s1 l1) (hn : n0 = n1) (hl : l0 = l1) :
    Calls Tryz.prog 16 #[.agg #[.bool n0, s0], .agg #[.bool n1, s1]] w (RBool true w) := by
  subst hn
  subst hl
  have g : ∀ o o', Calls Tryz.prog 33 #[s0, s1] ((w.alloc o).alloc o') (RDrawn (.bool true) ((w.alloc o).alloc o')) := fun o o' => by
    have := Same_any s0 s1 l0 l0 _ ((h0.alloc o).alloc o') ((h1.alloc o).alloc o')
    rwa [decide_eq_true rfl] at this
  have G := hid g
  clear g h0 h1
  go_enter Tryz.func16, Tryz.ntmps16
  go_wp2_with fail
  refine (G.out _ _).mono ?_
  rintro e w' ⟨rfl, k, rfl⟩
  go_wp2_with fail
  go_ret
  exact ⟨rfl, below_drewN ((below1 _ _).alloc (by simp) _) _⟩
theorem SameInt_same (v0 v1 : Value) (z : Int) (w : World) (h0 : IntAt w v0 z) (h1 : IntAt w v1 z) : Calls Tryz.prog 16 #[v0, v1] w (RBool true w) := by
  obtain ⟨s0, rfl, a0⟩ := h0
  obtain ⟨s1, rfl, a1⟩ := h1
  exact SameInt_raw _ _ s0 s1 _ _ w a0 a1 rfl rfl
end Go.Proofs.YtjfehknilofdjaaGreat
/- elenchuslaw01.few of two numbers, copied. -/
namespace Go.Proofs.YtjfehknilofdjaaGreat
open Go.RowKit Big

end Go.Proofs.YtjfehknilofdjaaGreat
/- elenchuslaw01.copied: the same number in new memory. -/
namespace Go.Proofs.YtjfehknilofdjaaGreat
open Go.RowKit Big

theorem Pair.far {w w' : World} {g B : Nat} {t : TypeId} (h : Pair w g t) (hg : g < B) (hb : Below B w w') : Pair w' g t := by
  obtain ⟨x, p, n, c, h⟩ := h
  exact ⟨x, p, n, c, (hb.block g hg).trans h⟩
/-- 'append(v, x...)' inside a region that draws its order -/
theorem step_append_at {P : Program} {w : World} {ops : Array Oper} {o : Oper} {a : Act} {K : Act → World → Prop} {Q : Exit → Act → World → Prop} {E' : Prop} (hgd : o.guard = none) (s x : Operand) (t : TypeId)
    (ho : o.op = .call { callee := .builtin .append, args := #[s, x], argTypes := #[t, t] })
    {e : TypeId} {k : IntKind} {size : Nat} (E : Elem P t e k size) (base : Nat) (v : Value) (l : List Nat) (hs : a.eval s = v) (hown : Own w base e k v l)
    (vx : Value) (m : List Nat) (hx : a.eval x = vx) (hat : At w k vx m)
    (hlen : l.length + m.length ≤ maxLen) (hbytes : (l.length + m.length) * size ≤ 140737488355328) (hbase : base ≤ w.heap.size)
    (h : ∀ v' w', Own w' base e k v' (l ++ m) → Below base w w' → w.heap.size ≤ w'.heap.size → K (a.put o.dst v') w') :
    if Region.wanted o (yielded ops a.tmps) = true then Oper.wp P o a w K Q else E' := by
  have hw : Region.wanted o (yielded ops a.tmps) = true := by simp [Region.wanted, hgd]
  rw [if_pos hw]
  obtain ⟨i, hi, hz, hsz, hby⟩ := E.row
  obtain ⟨p, cap, rfl, h1, h2, h3, h4⟩ := hat
  cases p with
  | none =>
    obtain rfl := h3 rfl
    obtain rfl : m = [] := List.eq_nil_of_length_eq_zero (by omega)
    have hrun := run_append_owned_none (P := P) (w := w) base t o.type e i 1 E.und hi v l.length (ints k l) hown
    unfold Oper.wp
    simp [execOp, ho, resolve, invoke, builtin, hs, hx, hrun, Result.andThen]
    exact h _ _ (by rw [List.append_nil]; exact hown) (Below.refl _ _) (Nat.le_refl _)
  | some ad =>
    refine wp_append_own w s x t ho base e i (.int k 0) 1 size E.und hi hz hsz hby rfl (by decide) v l.length (ints k l) hs hown ad m.length cap (ints k m) hx (by simp [ints_length]) ?_ ?_ hlen hbytes hbase ?_
    · intro j u hj
      by_cases hjm : j < m.length
      · obtain ⟨b, off, he, hb, hc⟩ := h4 (by omega)
        cases he
        rw [Go.WideShapes.add_plain, hc j hjm]
        simpa [ints, hjm] using hj
      · rw [List.getElem?_eq_none (by rw [ints_length]; omega)] at hj; cases hj
    · intro u hu
      obtain ⟨n, _, rfl⟩ := List.mem_map.1 hu
      rfl
    · intro v' w' h5 h6 _
      refine h v' w' ?_ ((Below.refl _ _).grown h6 hbase hown.row) h6.size
      unfold Own
      rw [List.length_append, ints_append]; exact h5

def RCopied (neg : Bool) (l : List Nat) (w : World) (e : Ending) (w' : World) : Prop := ∃ p c, e = .returned (.agg #[.bool neg, .slice p l.length c]) ∧ At w' .u64 (.slice p l.length c) l ∧ Below w.heap.size w w'

end Go.Proofs.YtjfehknilofdjaaGreat
/- A region that draws its order, walked operation by operation under an invariant that speaks of what has come up: no branching over the orders. -/
namespace Go.Proofs.YtjfehknilofdjaaGreat

theorem count_false_set (l : List Bool) (i : Nat) (h : i < l.length) (hf : l[i] = false) : (l.set i true).count false + 1 = l.count false := by
  induction l generalizing i with
  | nil => simp at h
  | cons b l ih =>
    cases i with
    | zero => simp at hf; subst hf; simp
    | succ i =>
      have := ih i (by simpa using h) (by simpa using hf)
      cases b <;> simp [List.set_cons_succ] <;> omega

/-- edges lead to lower numbers -/
def edgesDown (md : Region.Mode) (ops : Array Oper) : Bool := (List.range ops.size).all fun i => (ops[i]?).all fun o => o.after.all fun e => !Region.binds md e || decide (e.on < i)

theorem all_listed {md : Region.Mode} {ops : Array Oper} (hd : edgesDown md ops = true) {listed : Array Bool} (hs : listed.size = ops.size) (hr : Region.ready md ops listed = []) : ∀ i, i < ops.size → listed.getD i true = true := by
  intro i
  induction i using Nat.strongRecOn with
  | _ i ih =>
    intro hi
    cases hun : listed.getD i true with
    | true => rfl
    | false =>
    have : i ∈ Region.ready md ops listed := mem_ready.2 ⟨hun, ops[i], by simp [hi], fun e he hb => by
      have h1 := List.all_eq_true.1 hd i (by simpa using hi)
      have h2 : ops[i]? = some ops[i] := by simp [hi]
      rw [h2] at h1
      simp only [Option.all_some, Array.all_eq_true_iff_forall_mem] at h1
      have hlt : e.on < i := by simpa [hb] using h1 e he
      have h4 := ih e.on hlt (by omega)
      have h5 : e.on < listed.size := by omega
      simpa [Array.getD, h5] using h4⟩
    rw [hr] at this; cases this

/-- six slots set -/
def put6 (a : Act) (d1 d2 d3 d4 d5 d6 : Tmp) (v1 v2 v3 v4 v5 v6 : Value) : Act := (((((a.put (some d1) v1).put (some d2) v2).put (some d3) v3).put (some d4) v4).put (some d5) v5).put (some d6) v6
end Go.Proofs.YtjfehknilofdjaaGreat
/- 'x, y := copied(a), copied(b)': what holds of the frame and the world, whatever has come up of the statement. -/
namespace Go.Proofs.YtjfehknilofdjaaGreat
open Go.RowKit Big

theorem Two.drew {w : World} {g : Nat} {a b c d : Value} (h : Two w g a b c d) : Two w.drew g a b c d := ⟨h.c00, h.c01, h.c10, h.c11, h.lt⟩
theorem Two.set {w : World} {g : Nat} {a b c d : Value} (h : Two w g a b c d) (x j : Nat) (u : Value) (hx : g + 1 < x) : Two (w.setCell ⟨x, j, none⟩ u) g a b c d :=
  ⟨(World.cell?_of_block (w := w) (Below.heap_setCell w _ u g (by show g ≠ x; omega))).trans h.c00, (World.cell?_of_block (w := w) (Below.heap_setCell w _ u g (by show g ≠ x; omega))).trans h.c01,
   (World.cell?_of_block (w := w) (Below.heap_setCell w _ u (g + 1) (by show g + 1 ≠ x; omega))).trans h.c10, (World.cell?_of_block (w := w) (Below.heap_setCell w _ u (g + 1) (by show g + 1 ≠ x; omega))).trans h.c11, by simpa [World.setCell] using h.lt⟩
theorem Below.go {u w w' : World} (hb : Below w.heap.size w w') (h : Below u.heap.size u w) : Below u.heap.size u w' := h.trans (hb.mono h.size)
/-- a value is a number's copy -/
def Cop (w : World) (n : Bool) (l : List Nat) (v : Value) : Prop := ∃ q k, v = .agg #[.bool n, .slice q l.length k] ∧ At w .u64 (.slice q l.length k) l
theorem Cop.below {w w' : World} {n : Bool} {l : List Nat} {v : Value} (h : Cop w n l v) (hb : Below w.heap.size w w') : Cop w' n l v := by
  obtain ⟨q, k, rfl, ha⟩ := h
  exact ⟨q, k, rfl, ha.below hb⟩
/-- a pointer to a variable of a number, from block B on -/
def VarAt (w : World) (B : Nat) (v : Value) : Prop := ∃ g, v = .pointer (some ⟨g, 0, none⟩) ∧ Pair w g 26 ∧ B ≤ g
theorem VarAt.below {w w' : World} {B : Nat} {v : Value} (h : VarAt w B v) (hb : Below w.heap.size w w') : VarAt w' B v := by
  obtain ⟨g, rfl, hp, hB⟩ := h
  exact ⟨g, rfl, hp.below hb, hB⟩
/-- .. which holds the number's copy -/
def Holds (w : World) (n : Bool) (l : List Nat) (v : Value) : Prop :=
  ∃ g q k, v = .pointer (some ⟨g, 0, none⟩) ∧ w.heap[g]? = some (.cells #[.bool n, .slice q l.length k] 26 (0, 0)) ∧ At w .u64 (.slice q l.length k) l

structure C2 (g0 : Nat) (n0 n1 : Bool) (p0 p1 : Option Addr) (c0 c1 : Nat) (l0 l1 : List Nat) (B : Nat) (u : World) (L : Array Bool) (s5 s6 s15 s16 s17 s18 : Value) (w : World) : Prop where
  two : Two w g0 (.bool n0) (.slice p0 l0.length c0) (.bool n1) (.slice p1 l1.length c1)
  low : g0 + 2 ≤ B
  bel : Below B u w
  sz : B ≤ w.heap.size
  a0 : At w .u64 (.slice p0 l0.length c0) l0
  a1 : At w .u64 (.slice p1 l1.length c1) l1
  f0 : L.getD 0 false = true → s15 = .agg #[.bool n0, .slice p0 l0.length c0]
  f1 : L.getD 1 false = true → Cop w n0 l0 s16
  f2 : L.getD 2 false = true → s17 = .agg #[.bool n1, .slice p1 l1.length c1]
  f3 : L.getD 3 false = true → Cop w n1 l1 s18
  f4 : L.getD 4 false = true → VarAt w B s5
  f5 : L.getD 5 false = true → VarAt w B s6
  f45 : L.getD 4 false = true → L.getD 5 false = true → s5 ≠ s6
  f6 : L.getD 6 false = true → Holds w n0 l0 s5
  f7 : L.getD 7 false = true → Holds w n1 l1 s6
  d6 : L.getD 6 false = true → L.getD 4 false = true ∧ L.getD 5 false = true
  d7 : L.getD 7 false = true → L.getD 6 false = true

section
variable {g0 : Nat} {n0 n1 : Bool} {p0 p1 : Option Addr} {c0 c1 : Nat} {l0 l1 : List Nat} {B : Nat} {u : World} {L : Array Bool} {s5 s6 s15 s16 s17 s18 : Value} {w : World}
theorem Holds.below {w w' : World} {n : Bool} {l : List Nat} {v : Value} (h : Holds w n l v) (hb : Below w.heap.size w w') : Holds w' n l v := by
  obtain ⟨g, q, k, rfl, hg, ha⟩ := h
  exact ⟨g, q, k, rfl, (hb.block g (Array.getElem?_eq_some_iff.1 hg).1).trans hg, ha.below hb⟩
theorem VarAt.ne {w : World} {v : Value} {B : Nat} (h : VarAt w B v) : v ≠ .pointer (some ⟨w.heap.size, 0, none⟩) := by
  obtain ⟨g, rfl, hp, -⟩ := h
  intro he
  have hl := hp.lt
  injection he with he
  injection he with he
  injection he with he
  omega
theorem Cop.stored {w : World} {n : Bool} {l : List Nat} {v : Value} (h : Cop w n l v) {g : Nat} {t : TypeId} (hp : Pair w g t) (x : Bool) (p : Option Addr) (m c : Nat) :
    Cop ((w.setCell ⟨g, 0, none⟩ (.bool x)).setCell ⟨g, 1, none⟩ (.slice p m c)) n l v := by
  obtain ⟨q, k, rfl, ha⟩ := h
  exact ⟨q, k, rfl, ha.stored hp x p m c⟩
theorem Pair.apart {w : World} {g g' : Nat} {t : TypeId} (h : Pair w g t) (hne : g ≠ g') (u u' : Value) : Pair ((w.setCell ⟨g', 0, none⟩ u).setCell ⟨g', 1, none⟩ u') g t := by
  obtain ⟨x, p, n, c, h⟩ := h
  exact ⟨x, p, n, c, ((Below.heap_setCell _ _ _ _ hne).trans (Below.heap_setCell _ _ _ _ hne)).trans h⟩
theorem Pair.self {w : World} {g : Nat} {t : TypeId} (h : Pair w g t) (x : Bool) (p : Option Addr) (n c : Nat) : Pair ((w.setCell ⟨g, 0, none⟩ (.bool x)).setCell ⟨g, 1, none⟩ (.slice p n c)) g t := (h.set0 x).set1 p n c
theorem VarAt.stored {w : World} {B : Nat} {v : Value} (h : VarAt w B v) {g : Nat} (hp : Pair w g 26) (x : Bool) (p : Option Addr) (n c : Nat) : VarAt ((w.setCell ⟨g, 0, none⟩ (.bool x)).setCell ⟨g, 1, none⟩ (.slice p n c)) B v := by
  obtain ⟨g', rfl, hp', hB⟩ := h
  refine ⟨g', rfl, ?_, hB⟩
  by_cases he : g' = g
  · subst he; exact hp'.self x p n c
  · exact hp'.apart he _ _
theorem Pair.put {w : World} {g : Nat} {t : TypeId} (h : Pair w g t) (x : Bool) (p : Option Addr) (n c : Nat) : ((w.setCell ⟨g, 0, none⟩ (.bool x)).setCell ⟨g, 1, none⟩ (.slice p n c)).heap[g]? = some (.cells #[.bool x, .slice p n c] t (0, 0)) := by
  obtain ⟨y, p', n', c', h⟩ := h
  have h1 := heap_setCell_same w g 0 _ t (.bool x) h
  exact heap_setCell_same _ g 1 _ t (.slice p n c) h1
/-- all has come up -/
structure Done2 (g0 : Nat) (n0 n1 : Bool) (p0 p1 : Option Addr) (c0 c1 : Nat) (l0 l1 : List Nat) (B : Nat) (u : World) (s5 s6 : Value) (w : World) : Prop where
  two : Two w g0 (.bool n0) (.slice p0 l0.length c0) (.bool n1) (.slice p1 l1.length c1)
  bel : Below B u w
  sz : B ≤ w.heap.size
  a0 : At w .u64 (.slice p0 l0.length c0) l0
  a1 : At w .u64 (.slice p1 l1.length c1) l1
  hx : Holds w n0 l0 s5
  hy : Holds w n1 l1 s6
theorem C2.done (h : C2 g0 n0 n1 p0 p1 c0 c1 l0 l1 B u L s5 s6 s15 s16 s17 s18 w) (h6 : L.getD 6 false = true) (h7 : L.getD 7 false = true) : Done2 g0 n0 n1 p0 p1 c0 c1 l0 l1 B u s5 s6 w :=
  { h with hx := h.f6 h6, hy := h.f7 h7 }
theorem C2.start {g0 : Nat} {n0 n1 : Bool} {p0 p1 : Option Addr} {c0 c1 : Nat} {l0 l1 : List Nat} {w : World} {s5 s6 s15 s16 s17 s18 : Value} (ht : Two w g0 (.bool n0) (.slice p0 l0.length c0) (.bool n1) (.slice p1 l1.length c1))
    (ha : At w .u64 (.slice p0 l0.length c0) l0) (hb : At w .u64 (.slice p1 l1.length c1) l1) : C2 g0 n0 n1 p0 p1 c0 c1 l0 l1 w.heap.size w (Array.replicate 8 false) s5 s6 s15 s16 s17 s18 w.drew :=
  { two := ht.drew, low := ht.lt, bel := Below.drew (Below.refl _ _), sz := Nat.le_refl _, a0 := ha.drew, a1 := hb.drew
    f0 := fun h => by simp at h
    f1 := fun h => by simp at h
    f2 := fun h => by simp at h
    f3 := fun h => by simp at h
    f4 := fun h => by simp at h
    f5 := fun h => by simp at h
    f45 := fun h => by simp at h
    f6 := fun h => by simp at h
    f7 := fun h => by simp at h
    d6 := fun h => by simp at h
    d7 := fun h => by simp at h }
end
end Go.Proofs.YtjfehknilofdjaaGreat
