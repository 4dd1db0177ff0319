/- Texts put together: Big, Mem, Own, Compare, RatMath, Trim, SmallFns, Plus, Minus, Mem2, WholeFns, WholeAdd, WholeCmp, WholeSum, WholeSub. -/
import Derived.Test.YtlijekppbpefaaaProg
import Derived.WalkKit
import Derived.WalkSpells
import Derived.Deep.QuietTactic
import Derived.BigQuiet
import Derived.WalkSmall
import Derived.Laws.AppendOwnNone
import Derived.Shelf.Spec.BitsCarry
import Derived.Deep.RegionHeld3
/- Plain mathematics of digit lists: the value of a list of digits, its canonical form, and how sums, differences, products and quotients of digits carry. No program is named here. -/
namespace Go.Proofs.Ytlijekppbpefaaa.Big

/-- the value of digits, the lowest first -/
def val (B : Nat) : List Nat → Nat
  | [] => 0
  | x :: xs => x + B * val B xs

/-- all digits are below the base -/
def Small (B : Nat) (l : List Nat) : Prop := ∀ x ∈ l, x < B

/-- the digits of a number, with fuel -/
def dg (B : Nat) : Nat → Nat → List Nat
  | 0, _ => []
  | f + 1, n => if n = 0 then [] else (n % B) :: dg B f (n / B)
/-- the digits of a number, none of them above the highest that isn't 0 -/
def dig (B n : Nat) : List Nat := dg B n n
/-- how many digits -/
def sz (B n : Nat) : Nat := (dig B n).length

theorem val_nil (B : Nat) : val B [] = 0 := rfl
theorem val_cons (B x : Nat) (l : List Nat) : val B (x :: l) = x + B * val B l := rfl
theorem val_append (B : Nat) (l m : List Nat) : val B (l ++ m) = val B l + B ^ l.length * val B m := by
  induction l with
  | nil => simp [val]
  | cons x l ih => simp only [List.cons_append, val, ih, List.length_cons, Nat.pow_succ]; grind
theorem val_snoc (B : Nat) (l : List Nat) (x : Nat) : val B (l ++ [x]) = val B l + B ^ l.length * x := by
  rw [val_append]; simp [val]
theorem small_nil (B : Nat) : Small B [] := by intro x hx; cases hx
theorem small_cons {B x : Nat} {l : List Nat} (h : x < B) (hl : Small B l) : Small B (x :: l) := by
  intro y hy; cases hy with
  | head => exact h
  | tail _ hy => exact hl y hy
theorem small_append {B : Nat} {l m : List Nat} (hl : Small B l) (hm : Small B m) : Small B (l ++ m) := by
  intro y hy; rcases List.mem_append.1 hy with h | h
  · exact hl y h
  · exact hm y h
theorem small_snoc {B : Nat} {l : List Nat} {x : Nat} (hl : Small B l) (h : x < B) : Small B (l ++ [x]) :=
  small_append hl (small_cons h (small_nil B))
theorem small_left {B : Nat} {l m : List Nat} (h : Small B (l ++ m)) : Small B l := fun x hx => h x (List.mem_append_left _ hx)
theorem small_take {B : Nat} {l : List Nat} (h : Small B l) (k : Nat) : Small B (l.take k) := fun x hx => h x (List.mem_of_mem_take hx)
theorem small_drop {B : Nat} {l : List Nat} (h : Small B l) (k : Nat) : Small B (l.drop k) := fun x hx => h x (List.mem_of_mem_drop hx)
theorem small_get {B : Nat} {l : List Nat} (h : Small B l) (i : Nat) (hi : i < l.length) : l[i] < B := h _ (List.getElem_mem hi)
theorem small_getD {B : Nat} {l : List Nat} (h : Small B l) (hB : 0 < B) (i : Nat) : l[i]?.getD 0 < B := by
  cases hx : l[i]? with
  | none => simpa using hB
  | some x => simpa using h x (List.mem_of_getElem? hx)

theorem val_lt {B : Nat} (hB : 0 < B) : ∀ {l : List Nat}, Small B l → val B l < B ^ l.length
  | [], _ => by simp [val]
  | x :: l, h => by
    have h1 : x < B := h x (by simp)
    have h2 := val_lt hB (l := l) fun y hy => h y (by simp [hy])
    simp only [val, List.length_cons, Nat.pow_succ]
    have : B * val B l + B ≤ B ^ l.length * B := by
      rw [Nat.mul_comm (B ^ l.length)]; calc B * val B l + B = B * (val B l + 1) := by grind
        _ ≤ B * B ^ l.length := Nat.mul_le_mul_left _ h2
    omega
theorem val_take_drop (B : Nat) (l : List Nat) (k : Nat) (hk : k ≤ l.length) : val B l = val B (l.take k) + B ^ k * val B (l.drop k) := by
  conv => lhs; rw [← List.take_append_drop k l]
  rw [val_append, List.length_take, Nat.min_eq_left hk]
theorem take_succ' {α : Type} (l : List α) (k : Nat) (h : k < l.length) : l.take (k + 1) = l.take k ++ [l[k]] := by
  rw [List.take_succ_eq_append_getElem h]
theorem val_take_succ (B : Nat) (l : List Nat) (k : Nat) (h : k < l.length) : val B (l.take (k + 1)) = val B (l.take k) + B ^ k * l[k] := by
  rw [take_succ' l k h, val_snoc, List.length_take, Nat.min_eq_left (by omega)]
theorem val_take_ge (B : Nat) (l : List Nat) (k : Nat) (h : l.length ≤ k) : val B (l.take k) = val B l := by rw [List.take_of_length_le h]
/-- one digit more, which may lie beyond the end -/
theorem val_take_getD (B : Nat) (l : List Nat) (k : Nat) : val B (l.take (k + 1)) = val B (l.take k) + B ^ k * l[k]?.getD 0 := by
  by_cases h : k < l.length
  · rw [val_take_succ B l k h]; simp [h]
  · rw [val_take_ge _ _ _ (by omega), val_take_ge _ _ _ (by omega)]; simp [List.getElem?_eq_none (Nat.le_of_not_lt h)]
theorem val_drop_succ (B : Nat) (l : List Nat) (k : Nat) (h : k < l.length) : val B (l.drop k) = l[k] + B * val B (l.drop (k + 1)) := by
  rw [List.drop_eq_getElem_cons h, val_cons]

theorem dg_fuel {B : Nat} (hB : 2 ≤ B) : ∀ (f g n : Nat), n ≤ f → n ≤ g → dg B f n = dg B g n
  | 0, 0, n, _, _ => rfl
  | 0, g + 1, n, h, _ => by have : n = 0 := by omega
                            subst this; simp [dg]
  | f + 1, 0, n, _, h => by have : n = 0 := by omega
                            subst this; simp [dg]
  | f + 1, g + 1, n, h1, h2 => by
    simp only [dg]
    by_cases h : n = 0
    · simp [h]
    · have hd : n / B < n := Nat.div_lt_self (by omega) (by omega)
      simp only [h, if_false]
      rw [dg_fuel hB f g (n / B) (by omega) (by omega)]
theorem dig_zero (B : Nat) : dig B 0 = [] := rfl
theorem dig_pos {B : Nat} (hB : 2 ≤ B) {n : Nat} (h : 0 < n) : dig B n = (n % B) :: dig B (n / B) := by
  have hd : n / B < n := Nat.div_lt_self h (by omega)
  obtain ⟨m, rfl⟩ : ∃ m, n = m + 1 := ⟨n - 1, by omega⟩
  show dg B (m + 1) (m + 1) = _
  simp only [dg]
  rw [if_neg (by omega), dg_fuel hB m ((m + 1) / B) _ (by omega) (Nat.le_refl _)]
  rfl
theorem dig_one {B : Nat} (hB : 2 ≤ B) {n : Nat} (h : 0 < n) (hn : n < B) : dig B n = [n] := by
  rw [dig_pos hB h, Nat.mod_eq_of_lt hn, Nat.div_eq_of_lt hn, dig_zero]
theorem strong {P : Nat → Prop} (h : ∀ n, (∀ m, m < n → P m) → P n) (n : Nat) : P n := Nat.strongRecOn n h
theorem val_dig {B : Nat} (hB : 2 ≤ B) (n : Nat) : val B (dig B n) = n := by
  induction n using strong with
  | h n ih =>
    by_cases h : n = 0
    · subst h; rfl
    · have hd : n / B < n := Nat.div_lt_self (by omega) (by omega)
      rw [dig_pos hB (by omega), val_cons, ih _ hd]
      exact Nat.mod_add_div n B
theorem small_dig {B : Nat} (hB : 2 ≤ B) (n : Nat) : Small B (dig B n) := by
  induction n using strong with
  | h n ih =>
    by_cases h : n = 0
    · subst h; exact small_nil B
    · have hd : n / B < n := Nat.div_lt_self (by omega) (by omega)
      rw [dig_pos hB (by omega)]
      exact small_cons (Nat.mod_lt _ (by omega)) (ih _ hd)
theorem last_dig {B : Nat} (hB : 2 ≤ B) (n : Nat) : (h : dig B n ≠ []) → (dig B n).getLast h ≠ 0 := by
  induction n using strong with
  | h n ih =>
    intro h
    by_cases h0 : n = 0
    · subst h0; exact absurd rfl h
    · have hd : n / B < n := Nat.div_lt_self (by omega) (by omega)
      by_cases h1 : n / B = 0
      · have e : dig B n = [n % B] := by rw [dig_pos hB (by omega), h1]; rfl
        have : n % B ≠ 0 := by
          intro hm
          have := Nat.mod_add_div n B
          rw [hm, h1] at this; omega
        simp only [e, List.getLast_singleton]; exact this
      · have hne : dig B (n / B) ≠ [] := by rw [dig_pos hB (Nat.pos_of_ne_zero h1)]; simp
        have e : dig B n = (n % B) :: dig B (n / B) := dig_pos hB (by omega)
        have := ih _ hd hne
        simp only [e]
        rw [List.getLast_cons hne]; exact this
/-- a list without a nought at its end is its number's digits -/
theorem canon_last {B : Nat} (hB : 2 ≤ B) : ∀ {l : List Nat}, Small B l → (∀ h : l ≠ [], l.getLast h ≠ 0) → l = dig B (val B l)
  | [], _, _ => rfl
  | x :: l, hs, hl => by
    have hx : x < B := hs x (by simp)
    have hs' : Small B l := fun y hy => hs y (by simp [hy])
    have hl' : ∀ h : l ≠ [], l.getLast h ≠ 0 := by
      intro h; have := hl (by simp); rwa [List.getLast_cons h] at this
    have ih := canon_last hB hs' hl'
    have hpos : 0 < val B (x :: l) := by
      rw [val_cons]
      by_cases hln : l = []
      · subst hln; have := hl (by simp); simp at this; omega
      · have : val B l ≠ 0 := by
          intro h0; rw [h0] at ih; exact hln (by rw [ih]; rfl)
        have : 0 < B * val B l := Nat.mul_pos (by omega) (by omega)
        omega
    rw [dig_pos hB hpos, val_cons, Nat.add_mul_mod_self_left, Nat.mod_eq_of_lt hx, Nat.add_mul_div_left _ _ (by omega : 0 < B), Nat.div_eq_of_lt hx, Nat.zero_add, ← ih]
theorem canon {B : Nat} (hB : 2 ≤ B) {l : List Nat} (hs : Small B l) (h : l = [] ∨ B ^ (l.length - 1) ≤ val B l) : l = dig B (val B l) := by
  refine canon_last hB hs fun hne h0 => ?_
  rcases h with h | h
  · exact hne h
  · have e : l = l.dropLast ++ [0] := by rw [← h0]; exact (List.dropLast_concat_getLast hne).symm
    have hlt := val_lt (by omega : 0 < B) (l := l.dropLast) (fun y hy => hs y (List.dropLast_subset l hy))
    have e2 : val B l = val B l.dropLast := by rw [e, val_snoc]; simp
    rw [List.length_dropLast] at hlt
    omega
theorem canon_val {B : Nat} (hB : 2 ≤ B) {l : List Nat} {n : Nat} (hs : Small B l) (hv : val B l = n) (h : l = [] ∨ B ^ (l.length - 1) ≤ n) : l = dig B n := by
  subst hv; exact canon hB hs h
/-- equal values, equal digits -/
theorem dig_inj {B : Nat} (hB : 2 ≤ B) {n m : Nat} (h : dig B n = dig B m) : n = m := by
  rw [← val_dig hB n, ← val_dig hB m, h]
theorem dig_eq_nil {B : Nat} (hB : 2 ≤ B) {n : Nat} : dig B n = [] ↔ n = 0 :=
  ⟨fun h => by by_cases h0 : n = 0; exact h0; rw [dig_pos hB (by omega)] at h; simp at h, fun h => by subst h; rfl⟩

theorem sz_zero (B : Nat) : sz B 0 = 0 := rfl
theorem sz_pos {B : Nat} (hB : 2 ≤ B) {n : Nat} (h : 0 < n) : sz B n = sz B (n / B) + 1 := by unfold sz; rw [dig_pos hB h]; simp
theorem sz_eq_zero {B : Nat} (hB : 2 ≤ B) {n : Nat} : sz B n = 0 ↔ n = 0 := by
  unfold sz; rw [List.length_eq_zero_iff]; exact dig_eq_nil hB
theorem lt_pow_sz {B : Nat} (hB : 2 ≤ B) (n : Nat) : n < B ^ sz B n := by
  have := val_lt (by omega : 0 < B) (small_dig hB n); rwa [val_dig hB] at this
theorem pow_sz_le {B : Nat} (hB : 2 ≤ B) {n : Nat} (h : 0 < n) : B ^ (sz B n - 1) ≤ n := by
  induction n using strong with
  | h n ih =>
    by_cases h1 : n / B = 0
    · rw [sz_pos hB h, h1]; simp [sz_zero]; omega
    · have hd : n / B < n := Nat.div_lt_self (by omega) (by omega)
      have := ih _ hd (Nat.pos_of_ne_zero h1)
      have hsz : sz B (n / B) ≠ 0 := fun e => h1 ((sz_eq_zero hB).1 e)
      rw [sz_pos hB h, Nat.add_sub_cancel, show sz B (n / B) = sz B (n / B) - 1 + 1 by omega, Nat.pow_succ]
      calc B ^ (sz B (n / B) - 1) * B ≤ n / B * B := Nat.mul_le_mul_right _ this
        _ ≤ n := Nat.div_mul_le_self n B
theorem sz_le_of_lt {B : Nat} (hB : 2 ≤ B) {n k : Nat} (h : n < B ^ k) : sz B n ≤ k := by
  by_cases h0 : n = 0
  · subst h0; rw [sz_zero]; omega
  · have h1 := pow_sz_le hB (n := n) (by omega)
    have h2 : B ^ (sz B n - 1) < B ^ k := Nat.lt_of_le_of_lt h1 h
    have := (Nat.pow_lt_pow_iff_right (a := B) (by omega)).1 h2
    omega
theorem sz_mono {B : Nat} (hB : 2 ≤ B) {n m : Nat} (h : n ≤ m) : sz B n ≤ sz B m :=
  sz_le_of_lt hB (Nat.lt_of_le_of_lt h (lt_pow_sz hB m))
theorem sz_val {B : Nat} (hB : 2 ≤ B) {l : List Nat} (hs : Small B l) : sz B (val B l) ≤ l.length :=
  sz_le_of_lt hB (val_lt (by omega) hs)
theorem sz_mul {B : Nat} (hB : 2 ≤ B) (n m : Nat) : sz B (n * m) ≤ sz B n + sz B m := by
  by_cases h0 : m = 0
  · subst h0; rw [Nat.mul_zero, sz_zero]; omega
  refine sz_le_of_lt hB ?_
  rw [Nat.pow_add]
  exact Nat.mul_lt_mul_of_lt_of_le (lt_pow_sz hB n) (Nat.le_of_lt (lt_pow_sz hB m)) (Nat.pos_of_ne_zero (by have := lt_pow_sz hB m; omega))
theorem sz_add {B : Nat} (hB : 2 ≤ B) {n m k : Nat} (hn : sz B n ≤ k) (hm : sz B m ≤ k) : sz B (n + m) ≤ k + 1 := by
  refine sz_le_of_lt hB ?_
  have h1 := Nat.lt_of_lt_of_le (lt_pow_sz hB n) (Nat.pow_le_pow_right (by omega : 0 < B) hn)
  have h2 := Nat.lt_of_lt_of_le (lt_pow_sz hB m) (Nat.pow_le_pow_right (by omega : 0 < B) hm)
  rw [Nat.pow_succ]
  have : B ^ k * 2 ≤ B ^ k * B := Nat.mul_le_mul_left _ hB
  omega

/-- order by size: more digits, a greater number -/
theorem lt_of_sz_lt {B : Nat} (hB : 2 ≤ B) {n m : Nat} (h : sz B n < sz B m) : n < m := by
  rcases Nat.lt_or_ge n m with h1 | h1
  · exact h1
  · exact absurd (sz_mono hB h1) (by omega)
/-- what is greater in the highest digit at which two lists part is greater -/
theorem val_lt_of_part {B : Nat} {l m : List Nat} {i : Nat} (hl : Small B l) (hi : i < l.length) (him : i < m.length)
    (hd : l.drop (i + 1) = m.drop (i + 1)) (h : l[i] < m[i]) : val B l < val B m := by
  have hB : 0 < B := Nat.lt_of_le_of_lt (Nat.zero_le _) (small_get hl i hi)
  rw [val_take_drop B l i (by omega), val_take_drop B m i (by omega), val_drop_succ B l i hi, val_drop_succ B m i him, hd]
  have hlt := val_lt hB (small_take hl i)
  rw [List.length_take, Nat.min_eq_left (by omega)] at hlt
  have : B ^ i * (l[i] + 1) ≤ B ^ i * m[i] := Nat.mul_le_mul_left _ h
  grind

/-- the strokes of a sum -/
theorem add_step {B x y c s c' P v va vb : Nat} (h : x + y + c = s + B * c') (hv : v + c * P = va + vb) : (v + P * s) + c' * (P * B) = (va + P * x) + (vb + P * y) := by grind
/-- the strokes of a difference -/
theorem sub_step {B x y c s c' P v va vb : Nat} (h : x + B * c' = s + y + c) (hv : v + vb = va + c * P) : (v + P * s) + (vb + P * y) = (va + P * x) + c' * (P * B) := by grind

/-- without the noughts at the end -/
def strip : List Nat → List Nat
  | [] => []
  | x :: l => match strip l with
    | [] => if x = 0 then [] else [x]
    | y :: m => x :: y :: m
theorem strip_dig {B : Nat} (hB : 2 ≤ B) : ∀ {l : List Nat}, Small B l → strip l = dig B (val B l)
  | [], _ => rfl
  | x :: l, hs => by
    have hx : x < B := hs x (by simp)
    have ih := strip_dig hB (l := l) fun y hy => hs y (by simp [hy])
    simp only [strip]
    by_cases h0 : val B l = 0
    · rw [ih, h0, dig_zero]
      simp only [val_cons, h0, Nat.mul_zero, Nat.add_zero]
      by_cases hx0 : x = 0
      · subst hx0; rfl
      · simp only [if_neg hx0]; rw [dig_one hB (by omega) hx]
    · have hne : dig B (val B l) ≠ [] := fun e => h0 ((dig_eq_nil hB).1 e)
      have hpos : 0 < val B (x :: l) := by
        rw [val_cons]; have : 0 < B * val B l := Nat.mul_pos (by omega) (by omega)
        omega
      rw [dig_pos hB hpos, val_cons, Nat.add_mul_mod_self_left, Nat.mod_eq_of_lt hx, Nat.add_mul_div_left _ _ (by omega : 0 < B), Nat.div_eq_of_lt hx, Nat.zero_add, ih]
      cases hh : dig B (val B l) with
      | nil => exact absurd hh hne
      | cons y m => rfl
theorem strip_snoc_zero (l : List Nat) : strip (l ++ [0]) = strip l := by
  induction l with
  | nil => rfl
  | cons x l ih => simp only [List.cons_append, strip, ih]
theorem strip_snoc {l : List Nat} {x : Nat} (h : x ≠ 0) : strip (l ++ [x]) = l ++ [x] := by
  induction l with
  | nil => simp [strip, h]
  | cons y l ih =>
    simp only [List.cons_append, strip, ih]
    cases l <;> rfl
/-- what trim takes off, one at a time -/
theorem strip_take {l : List Nat} {k : Nat} (hk : k < l.length) (h : l[k] = 0) : strip (l.take (k + 1)) = strip (l.take k) := by
  rw [take_succ' l k hk, h, strip_snoc_zero]
theorem strip_take_ne {l : List Nat} {k : Nat} (hk : k < l.length) (h : l[k] ≠ 0) : strip (l.take (k + 1)) = l.take (k + 1) := by
  rw [take_succ' l k hk, strip_snoc h]
theorem strip_nil : strip [] = [] := rfl
theorem strip_length (l : List Nat) : (strip l).length ≤ l.length := by
  induction l with
  | nil => simp [strip]
  | cons x l ih =>
    simp only [strip]
    cases h : strip l with
    | nil => by_cases hx : x = 0 <;> simp [hx]
    | cons y m => rw [h] at ih; simp at ih ⊢; omega

/-- the two bases of the texts: words of 64 bits, halves of 32, digits of 16 -/
def W : Nat := 18446744073709551616
def H : Nat := 4294967296
def D : Nat := 65536
theorem W2 : 2 ≤ W := by decide
theorem H2 : 2 ≤ H := by decide
theorem D2 : 2 ≤ D := by decide

end Go.Proofs.Ytlijekppbpefaaa.Big
/- How a slice of unsigned or signed numbers reads in memory: At w k v l says that the value v is a slice whose elements, of integer kind k, are the numbers l. -/
namespace Go.Proofs.Ytlijekppbpefaaa
open Go.RowKit

/-- a fact that the walk does not take for a rule -/
theorem hid {p : Prop} (h : p) : Hid p := h

/-- the slice v holds the numbers l -/
def At (w : World) (k : IntKind) (v : Value) (l : List Nat) : Prop :=
  ∃ p cap, v = .slice p l.length cap ∧ l.length ≤ cap ∧ cap ≤ maxLen ∧ (p = none → cap = 0) ∧
    (0 < l.length → ∃ b off, p = some ⟨b, off, none⟩ ∧ b < w.heap.size ∧ ∀ i (h : i < l.length), w.cell? ⟨b, off + i, none⟩ = some (.int k (l[i]'h : Nat)))

theorem At.nil (w : World) (k : IntKind) : At w k (.slice none 0 0) [] := ⟨none, 0, rfl, by simp, by simp [maxLen], fun _ => rfl, fun h => absurd h (by simp)⟩
theorem At.below {w w' : World} {k : IntKind} {v : Value} {l : List Nat} (h : At w k v l) (hb : Below w.heap.size w w') : At w' k v l := by
  obtain ⟨p, cap, hv, h1, h2, h3, h4⟩ := h
  refine ⟨p, cap, hv, h1, h2, h3, fun hp => ?_⟩
  obtain ⟨b, off, h5, h6, h7⟩ := h4 hp
  exact ⟨b, off, h5, Nat.lt_of_lt_of_le h6 hb.size, fun i hi => (hb.cell (p := ⟨b, off + i, none⟩) h6).trans (h7 i hi)⟩
/-- a cut at the end -/
theorem At.take {w : World} {k : IntKind} {p : Option Addr} {n cap : Nat} {l : List Nat} (h : At w k (.slice p n cap) l) (m : Nat) (hm : m ≤ l.length) : At w k (.slice p m cap) (l.take m) := by
  obtain ⟨p', cap', hv, h1, h2, h3, h4⟩ := h
  cases hv
  refine ⟨p, cap, by simp [Nat.min_eq_left hm], by simp; omega, h2, h3, fun hp => ?_⟩
  rw [List.length_take, Nat.min_eq_left hm] at hp
  obtain ⟨b, off, h5, h6, h7⟩ := h4 (by omega)
  exact ⟨b, off, h5, h6, fun i hi => by rw [h7 i (by simp at hi; omega)]; simp⟩

/-- what a call answers: a slice of numbers l; memory that was there stays -/
def RAt (k : IntKind) (l : List Nat) (w : World) (e : Ending) (w' : World) : Prop := ∃ v', e = .returned v' ∧ At w' k v' l ∧ Below w.heap.size w w'
/-- likewise, nothing having turned -/
def RSame (k : IntKind) (l : List Nat) (w : World) (e : Ending) (w' : World) : Prop := ∃ v', e = .returned v' ∧ At w' k v' l ∧ w = w'
/-- a whole number by its sign and size -/
def sg (neg : Bool) (n : Nat) : Int := if neg then -(n : Int) else n
/-- a whole number as it is told -/
def IntAt (w : World) (v : Value) (z : Int) : Prop := ∃ s, v = .agg #[.bool (decide (z < 0)), s] ∧ At w .u64 s (Big.dig Big.W z.natAbs)
def RInt (z : Int) (w : World) (e : Ending) (w' : World) : Prop := ∃ v, e = .returned v ∧ IntAt w' v z ∧ Below w.heap.size w w'
/-- a whole number as it is handed in -/
def RawAt (w : World) (v : Value) (z : Int) : Prop := ∃ neg s l, v = .agg #[.bool neg, s] ∧ At w .u64 s l ∧ Big.Small Big.W l ∧ l.length ≤ 1099511627776 ∧ z = sg neg (Big.val Big.W l)
def RBool (b : Bool) (w : World) (e : Ending) (w' : World) : Prop := e = .returned (.bool b) ∧ Below w.heap.size w w'
def RNum (k : IntKind) (n : Int) (w : World) (e : Ending) (w' : World) : Prop := e = .returned (.int k n) ∧ Below w.heap.size w w'
theorem IntAt.below {w w' : World} {v : Value} {z : Int} (h : IntAt w v z) (hb : Below w.heap.size w w') : IntAt w' v z := by
  obtain ⟨s, hs, ha⟩ := h
  exact ⟨s, hs, ha.below hb⟩
theorem RawAt.below {w w' : World} {v : Value} {z : Int} (h : RawAt w v z) (hb : Below w.heap.size w w') : RawAt w' v z := by
  obtain ⟨neg, s, l, hs, ha, r⟩ := h
  exact ⟨neg, s, l, hs, ha.below hb, r⟩
theorem sg_natAbs (neg : Bool) (n : Nat) : (sg neg n).natAbs = n := by unfold sg; cases neg <;> simp
theorem sg_neg (neg : Bool) (n : Nat) (h : n ≠ 0) : decide (sg neg n < 0) = neg := by unfold sg; cases neg <;> simp <;> omega
theorem sg_zero (neg : Bool) : sg neg 0 = 0 := by unfold sg; cases neg <;> simp
theorem IntAt.zero (w : World) : IntAt w (.agg #[.bool false, .slice none 0 0]) 0 := ⟨_, by simp, At.nil w .u64⟩
theorem IntAt.mk {w : World} {neg : Bool} {s : Value} {n : Nat} (h0 : n ≠ 0) (h : At w .u64 s (Big.dig Big.W n)) : IntAt w (.agg #[.bool neg, s]) (sg neg n) :=
  ⟨s, by rw [sg_neg neg n h0], by rw [sg_natAbs]; exact h⟩
/-- a fresh cell of its own -/
theorem At.one (w : World) (k : IntKind) (x : Nat) (t : TypeId) : At (w.alloc (.cells #[.int k x] t)) k (.slice (some ⟨w.heap.size, 0, none⟩) 1 1) [x] :=
  ⟨_, 1, rfl, by simp, by simp [maxLen], fun h => (by cases h), fun _ => ⟨_, _, rfl, by simp, fun i hi => by
    obtain rfl : i = 0 := by simp at hi; omega
    simp [go_sem]⟩⟩
theorem below1 (w : World) (o : Obj) : Below w.heap.size w (w.alloc o) := (Below.refl _ _).alloc (Nat.le_refl _) o
def lenOf : Value → Nat | .slice _ n _ => n | _ => 0

theorem quiet_add_same {P : Program} {f : FuncId} {args : Array Value} {w : World} {a n : Nat} {v : Value}
    (h : Calls P f args (w.drewN (a + n)) fun e w' => e = .returned v ∧ w' = w.drewN (a + n)) :
    Calls P f args (w.drewN (a + n)) fun e w'' => e = .returned v ∧ ∃ m, w'' = w.drewN (a + m) :=
  h.mono fun _ _ ⟨he, hm⟩ => ⟨he, n, hm⟩
theorem At.drew {w : World} {k : IntKind} {v : Value} {l : List Nat} (h : At w k v l) : At w.drew k v l := h
theorem At.alloc {w : World} {k : IntKind} {v : Value} {l : List Nat} (h : At w k v l) (o : Obj) : At (w.alloc o) k v l := h.below (below1 w o)
/-- a slice cut behind its first m elements -/
def cutTo (v : Value) (m : Nat) : Value := match v with | .slice p _ c => .slice p m c | v => v
theorem At.cut {w : World} {k : IntKind} {v : Value} {l : List Nat} (h : At w k v l) (m : Nat) (hm : m ≤ l.length) : At w k (cutTo v m) (l.take m) := by
  have h' := h
  obtain ⟨p, cap, rfl, r⟩ := h'
  exact h.take m hm
theorem At.drewN {w : World} {k : IntKind} {v : Value} {l : List Nat} (h : At w k v l) (n : Nat) : At (w.drewN n) k v l := h

end Go.Proofs.Ytlijekppbpefaaa
/- Slices of numbers that a call has made itself: what append and make do with them. -/
namespace Go.Proofs.Ytlijekppbpefaaa
open Go.RowKit Big

/-- t is the type of slices of e, the integers of kind k, of so many bytes -/
structure Elem (P : Program) (t e : TypeId) (k : IntKind) (size : Nat) : Prop where
  und : P.underlying t = some (.slice e)
  row : ∃ i, P.info? e = some i ∧ i.zero = some (.int k 0) ∧ i.size = 1 ∧ i.bytes = size
def ints (k : IntKind) (l : List Nat) : List Value := l.map fun x => Value.int k (x : Nat)
/-- v holds the numbers l in a row of the call's own, from block base on -/
def Own (w : World) (base : Nat) (e : TypeId) (k : IntKind) (v : Value) (l : List Nat) : Prop := w.ownsRow base e 1 v l.length (ints k l)

theorem ints_length (k : IntKind) (l : List Nat) : (ints k l).length = l.length := by simp [ints]
theorem ints_append (k : IntKind) (l m : List Nat) : ints k (l ++ m) = ints k l ++ ints k m := by simp [ints]
theorem Own.nil (w : World) (base : Nat) (e : TypeId) (k : IntKind) : Own w base e k (.slice none 0 0) [] := World.ownsRow_nil w base e 1
theorem Own.at {w : World} {base : Nat} {e : TypeId} {k : IntKind} {v : Value} {l : List Nat} (h : Own w base e k v l) : At w k v l := by
  have h' := h
  unfold Own at h'
  rcases h'.2 with ⟨rfl, h0⟩ | ⟨g, cap, cur, rfl, _, hg, hn, hm, _, _⟩
  · obtain rfl := List.eq_nil_of_length_eq_zero h0
    exact At.nil w k
  · refine ⟨_, cap, rfl, hn, hm, fun h => (by cases h), fun _ => ⟨g, 0, rfl, (Array.getElem?_eq_some_iff.1 hg).1, fun i hi => ?_⟩⟩
    have := World.ownsRow.cellAt h' i (by omega)
    rw [Nat.zero_add, this]
    simp [ints, hi]
theorem Own.kept {w w' : World} {base : Nat} {e : TypeId} {k : IntKind} {v : Value} {l : List Nat} (h : Own w base e k v l) (hb : Below w.heap.size w w') : Own w' base e k v l := by
  refine ⟨h.1, ?_⟩
  rcases h.2 with hn | ⟨g, cap, cur, rfl, h1, hg, r⟩
  · exact Or.inl hn
  · exact Or.inr ⟨g, cap, cur, rfl, h1, by rw [hb.block g (Array.getElem?_eq_some_iff.1 hg).1]; exact hg, r⟩
theorem Own.alloc {w : World} {base : Nat} {e : TypeId} {k : IntKind} {v : Value} {l : List Nat} (h : Own w base e k v l) (o : Obj) : Own (w.alloc o) base e k v l := h.kept (below1 w o)
theorem Own.mono {w : World} {base base' : Nat} {e : TypeId} {k : IntKind} {v : Value} {l : List Nat} (h : Own w base e k v l) (hb : base' ≤ base) : Own w base' e k v l := by
  refine ⟨h.1, ?_⟩
  rcases h.2 with hn | ⟨g, cap, cur, rfl, h1, r⟩
  · exact Or.inl hn
  · exact Or.inr ⟨g, cap, cur, rfl, Nat.le_trans hb h1, r⟩
/-- a row that is written is one of the call's own -/
theorem Own.row {w : World} {base : Nat} {e : TypeId} {k : IntKind} {v : Value} {l : List Nat} (h : Own w base e k v l) : ∀ g, v.ownBlock = some g → base ≤ g := fun g hg => (World.ownsRow.lt h g hg).1
/-- a cut at the end -/
theorem Own.take {w : World} {base : Nat} {e : TypeId} {k : IntKind} {p : Option Addr} {n cap : Nat} {l : List Nat} (h : Own w base e k (.slice p n cap) l) (m : Nat) (hm : m ≤ l.length) : Own w base e k (.slice p m cap) (l.take m) := by
  have hl : (l.take m).length = m := by simp [Nat.min_eq_left hm]
  unfold Own at h ⊢
  rw [hl]
  refine ⟨by simp [ints_length, hl], ?_⟩
  rcases h.2 with ⟨h1, h2⟩ | ⟨g, c, cur, h1, h2, h3, h4, h5, h6, h7⟩
  · cases h1; exact Or.inl ⟨by rw [show m = 0 by omega], by omega⟩
  · cases h1
    refine Or.inr ⟨g, cap, cur, rfl, h2, h3, by omega, h5, h6, ?_⟩
    have : (ints k l).take m = ints k (l.take m) := by simp [ints, List.map_take]
    rw [← this, ← h7, List.take_take]
    congr 1; omega

/-- what a call answers: a slice of numbers l in memory of its own -/
def ROwn (e : TypeId) (k : IntKind) (l : List Nat) (w : World) (en : Ending) (w' : World) : Prop := ∃ v', en = .returned v' ∧ Own w' w.heap.size e k v' l ∧ Below w.heap.size w w'
theorem elemNat : Elem Try.prog 23 43 .u64 8 := ⟨Try.underlying23, info_parts (by kernel_rfl)⟩
theorem elemInts : Elem Try.prog 65 3 .i64 8 := ⟨Try.underlying65, info_parts (by kernel_rfl)⟩
theorem elemHalves : Elem Try.prog 75 90 .u32 4 := ⟨Try.underlying75, info_parts (by kernel_rfl)⟩

section
variable {P : Program} {w : World} {ops : Array Oper} {rest : List Oper} {o : Oper} {a : Act} {Q : Exit → Act → World → Prop}

/-- 'append(v, x...)': v the call's own, x whatever slice of numbers -/
theorem wpList_append_at (hgd : o.guard = none) (s x : Operand) (t : TypeId)
    (ho : o.op = .call { callee := .builtin .append, args := #[s, x], argTypes := #[t, t] })
    {e : TypeId} {k : IntKind} {size : Nat} (E : Elem P t e k size) (base : Nat) (v : Value) (l : List Nat) (hs : a.eval s = v) (hown : Own w base e k v l)
    (vx : Value) (m : List Nat) (hx : a.eval x = vx) (hat : At w k vx m)
    (hlen : l.length + m.length ≤ maxLen) (hbytes : (l.length + m.length) * size ≤ 140737488355328) (hbase : base ≤ w.heap.size)
    (h : ∀ v' w', Own w' base e k v' (l ++ m) → Below base w w' → w.heap.size ≤ w'.heap.size → wpList P ops Q rest (a.put o.dst v') w') : wpList P ops Q (o :: rest) a w := by
  obtain ⟨i, hi, hz, hsz, hby⟩ := E.row
  obtain ⟨p, cap, rfl, h1, h2, h3, h4⟩ := hat
  cases p with
  | none =>
    obtain rfl := h3 rfl
    obtain rfl : m = [] := List.eq_nil_of_length_eq_zero (by omega)
    exact wpList_append_own_none hgd s x t ho base e i 1 E.und hi v l.length (ints k l) hs hown hx (h _ _ (by rw [List.append_nil]; exact hown) (Below.refl _ _) (Nat.le_refl _))
  | some ad =>
    refine wpList_append_own w hgd s x t ho base e i (.int k 0) 1 size E.und hi hz hsz hby rfl (by decide) v l.length (ints k l) hs hown ad m.length cap (ints k m) hx (by simp [ints_length]) ?_ ?_ hlen hbytes hbase ?_
    · intro j u hj
      by_cases hjm : j < m.length
      · obtain ⟨b, off, he, hb, hc⟩ := h4 (by omega)
        cases he
        rw [Go.WideShapes.add_plain, hc j hjm]
        simpa [ints, hjm] using hj
      · rw [List.getElem?_eq_none (by rw [ints_length]; omega)] at hj; cases hj
    · intro u hu
      obtain ⟨n, _, rfl⟩ := List.mem_map.1 hu
      rfl
    · intro v' w' h5 h6 _
      refine h v' w' ?_ ((Below.refl _ _).grown h6 hbase hown.row) h6.size
      unfold Own
      rw [List.length_append, ints_append]; exact h5

/-- 'make([]T, 0, n)' -/
theorem wpList_make_at (hg : o.guard = none) (l c : Operand) (t : TypeId) (hop : o.op = Op.makeSlice t l c)
    {e : TypeId} {k : IntKind} {size : Nat} (E : Elem P t e k size) (base : Nat)
    (kl kc : IntKind) (C : Int) (n : Nat) (hl : a.eval l = .int kl 0) (hc : a.eval c = .int kc C) (hC : C = (n : Int)) (b2 : size * n ≤ 281474976710656) (b3 : n ≤ maxLen) (b4 : base ≤ w.heap.size)
    (hK : ∀ v w', Own w' base e k v [] → Below base w w' → w.heap.size ≤ w'.heap.size → v = (.slice (some ⟨w.heap.size, 0, none⟩) 0 n) → wpList P ops Q rest (a.put o.dst v) w') :
    wpList P ops Q (o :: rest) a w := by
  obtain ⟨i, hi, hz, hsz, hby⟩ := E.row
  subst hby
  exact wpList_make_own w hg l c t hop base e i (.int k 0) 1 E.und hi hz hsz kl kc C n hl hc hC b2 b3 b4 fun w' h1 h2 => hK _ w' h1 ((Below.refl _ _).grown h2 b4 (fun _ h => by cases h)) h2.size rfl

/-- 'make([]T, n)' -/
theorem wpList_full_at (hg : o.guard = none) (l c : Operand) (t : TypeId) (hop : o.op = Op.makeSlice t l c)
    {e : TypeId} {k : IntKind} {size : Nat} (E : Elem P t e k size) (base : Nat)
    (kl kc : IntKind) (L C : Int) (n : Nat) (hl : a.eval l = .int kl L) (hc : a.eval c = .int kc C) (hL : L = (n : Int)) (hC : C = (n : Int)) (b2 : size * n ≤ 281474976710656) (b3 : n ≤ maxLen) (b4 : base ≤ w.heap.size)
    (hK : ∀ v w', Own w' base e k v (List.replicate n 0) → Below base w w' → w.heap.size ≤ w'.heap.size → v = (.slice (some ⟨w.heap.size, 0, none⟩) n n) → wpList P ops Q rest (a.put o.dst v) w') :
    wpList P ops Q (o :: rest) a w := by
  obtain ⟨i, hi, hz, hsz, hby⟩ := E.row
  subst hby
  refine wpList_make_full w hg l c t hop base e i (.int k 0) 1 E.und hi hz hsz kl kc L C n hl hc hL hC b2 b3 b4 fun w' h1 h2 => hK _ w' ?_ ((Below.refl _ _).grown h2 b4 (fun _ h => by cases h)) h2.size rfl
  unfold Own
  rw [List.length_replicate]
  have e1 : (madeCells (Value.int k 0).cells (n * 1)).toList = ints k (List.replicate n 0) := by
    rw [Nat.mul_one]
    show (madeCells #[Value.int k 0] n).toList = _
    rw [toList_madeCells_one]
    simp [ints]
  rw [← e1]; exact h1
end

end Go.Proofs.Ytlijekppbpefaaa
/- whole.compare: the order of sizes. -/
namespace Go.Proofs.Ytlijekppbpefaaa
open Go.RowKit Big

def ord (a b : Int) : Int := if a < b then -1 else if b < a then 1 else 0
theorem ord_lt {a b : Int} (h : a < b) : ord a b = -1 := by simp [ord, h]
theorem ord_gt {a b : Int} (h : b < a) : ord a b = 1 := by simp [ord, h]; omega
theorem ord_eq (a : Int) : ord a a = 0 := by simp [ord]

theorem cmpInt_any (a b : Int) (w : World) :
    Calls Try.prog 52 #[.int .i64 a, .int .i64 b] w fun e w' => e = .returned (.int .i64 (ord a b)) ∧ w' = w := by
  rcases Int.lt_trichotomy a b with h | h | h
  · rw [ord_lt h]
    go_enter Try.func52, Try.ntmps52
    go_wp2
    go_ret
    exact ⟨rfl, rfl⟩
  · subst h
    rw [ord_eq]
    go_enter Try.func52, Try.ntmps52
    go_wp2
    go_ret
    exact ⟨rfl, rfl⟩
  · have h' : ¬ a < b := by omega
    rw [ord_gt h]
    go_enter Try.func52, Try.ntmps52
    go_wp2
    go_ret
    exact ⟨rfl, rfl⟩
theorem cmpWord_any (a b : Int) (w : World) :
    Calls Try.prog 70 #[.int .u64 a, .int .u64 b] w fun e w' => e = .returned (.int .i64 (ord a b)) ∧ w' = w := by
  rcases Int.lt_trichotomy a b with h | h | h
  · rw [ord_lt h]
    go_enter Try.func70, Try.ntmps70
    go_wp2
    go_ret
    exact ⟨rfl, rfl⟩
  · subst h
    rw [ord_eq]
    go_enter Try.func70, Try.ntmps70
    go_wp2
    go_ret
    exact ⟨rfl, rfl⟩
  · have h' : ¬ a < b := by omega
    rw [ord_gt h]
    go_enter Try.func70, Try.ntmps70
    go_wp2
    go_ret
    exact ⟨rfl, rfl⟩

theorem drawn_more {w wr : World} {n : Nat} (h : ∃ j, wr = w.drewN j) : ∃ j, wr.drewN n = w.drewN j := by
  obtain ⟨j, rfl⟩ := h
  exact ⟨j + n, by rw [World.drewN_drewN]⟩
def ROrd (z : Int) (w : World) (e : Ending) (w' : World) : Prop := e = .returned (.int .i64 z) ∧ ∃ k, w' = w.drewN k

/-- the order, seen at the highest digits that part -/
theorem ord_part {l0 l1 : List Nat} {n m : Nat} (s0 : Small W l0) (s1 : Small W l1) (h0 : val W l0 = n) (h1 : val W l1 = m) {k : Nat} (hk0 : k < l0.length) (hk1 : k < l1.length)
    (hd : l0.drop (k + 1) = l1.drop (k + 1)) (hne : l0[k] ≠ l1[k]) : ord (l0[k] : Nat) (l1[k] : Nat) = ord n m := by
  rcases Nat.lt_or_ge l0[k] l1[k] with h | h
  · have := val_lt_of_part s0 hk0 hk1 hd h
    rw [ord_lt (by omega), ord_lt (by omega)]
  · have := val_lt_of_part s1 hk1 hk0 hd.symm (show l1[k] < l0[k] by omega)
    rw [ord_gt (by omega), ord_gt (by omega)]

set_option maxRecDepth 100000 in
set_option maxHeartbeats 800000 in
theorem compare_any (v0 v1 : Value) (n m : Nat) (w : World) (h0 : At w .u64 v0 (dig W n)) (h1 : At w .u64 v1 (dig W m)) :
    Calls Try.prog 53 #[v0, v1] w (ROrd (ord n m) w) := by
  have s0 := small_dig W2 n
  have s1 := small_dig W2 m
  have k1 : (dig W n).length < (dig W m).length → n < m := lt_of_sz_lt W2
  have k2 : (dig W m).length < (dig W n).length → m < n := lt_of_sz_lt W2
  have hv0 := val_dig W2 n
  have hv1 := val_dig W2 m
  generalize dig W n = l0 at *
  generalize dig W m = l1 at *
  have Hv0 := hid hv0; clear hv0
  have Hv1 := hid hv1; clear hv1
  obtain ⟨p0, c0, rfl, a1, a2, a3, a4⟩ := h0
  obtain ⟨p1, c1, rfl, b1, b2, b3, b4⟩ := h1
  unfold maxLen at a2 b2
  by_cases hl : l0.length = l1.length
  · have Hl := hid hl
    rw [hl] at a1 ⊢; clear hl
    go_enter Try.func53, Try.ntmps53
    go_wp2_with fail
    go_loopw [5] (fun i wr => ∃ (k : Nat), k ≤ l1.length ∧ i = .int .i64 ((k : Int) - 1) ∧ Hid (l0.drop k = l1.drop k) ∧ Hid (∃ j, wr = w.drewN j)) (fun i _ => (intOf i + 1).toNat)
    case atStart => exact ⟨l1.length, Nat.le_refl _, rfl, by unfold Hid; rw [List.drop_length, ← Hl.out, List.drop_length], 0, rfl⟩
    case round =>
      obtain ⟨k, hk, rfl, hd, Hw⟩ := hrel
      by_cases hk0 : 0 < k
      · obtain ⟨k, rfl⟩ : ∃ k', k = k' + 1 := ⟨k - 1, by omega⟩
        have hkl : k < l0.length := by rw [Hl.out]; omega
        obtain ⟨b, off, rfl, hbb, hc0⟩ := a4 (Nat.lt_of_le_of_lt (Nat.zero_le _) hkl)
        obtain ⟨b', off', rfl, hbb', hc1⟩ := b4 (by omega)
        have e0 : wr.cell? ⟨b, off + k, none⟩ = some (.int .u64 (l0[k] : Nat)) := by obtain ⟨j, rfl⟩ := Hw.out; exact hc0 k hkl
        have e1 : wr.cell? ⟨b', off' + k, none⟩ = some (.int .u64 (l1[k] : Nat)) := by obtain ⟨j, rfl⟩ := Hw.out; exact hc1 k (by omega)
        have ep := ord_part s0 s1 Hv0.out Hv1.out hkl (show k < l1.length by omega) hd.out
        have es : l0[k] = l1[k] → l0.drop k = l1.drop k := fun h => by
          rw [List.drop_eq_getElem_cons hkl, List.drop_eq_getElem_cons (show k < l1.length by omega), h, hd.out]
        generalize l0[k] = x at *
        generalize l1[k] = y at *
        have Ep := hid ep
        have Es : Hid (x = y → l0.drop k = l1.drop k) := es
        clear a4 b4 hc0 hc1 ep es hbb hbb' s0 s1 k1 k2
        have hlow : (0 : Int) ≤ (k : Int) + 1 - 1 := by omega
        have hsp : (k : Int) + 1 - 1 = (k : Int) := by omega
        by_cases hxy : x = y
        · subst hxy
          go_wp2
          go_quiet (fail)
          go_wp2
          go_roundw
          case rel => exact ⟨k, by omega, rfl, Es.out (by trivial), drawn_more Hw.out⟩
          case measure => simp [intOf]
        · have hb : ((x : Int) != (y : Int)) = true := bne_iff_ne.2 (fun h => hxy (by omega))
          go_wp2
          go_quiet (fail)
          go_wp2
          go_quiet ((go_at_call 70; exact quiet_add_same (cmpWord_any _ _ _)))
          go_wp2
          go_ret
          exact ⟨by rw [← Ep.out (fun h => hxy h)]; rfl, drawn_more (drawn_more Hw.out)⟩
      · obtain rfl : k = 0 := by omega
        have hn : ord n m = 0 := by
          have h := hd.out
          rw [List.drop_zero, List.drop_zero] at h
          rw [← Hv0.out, ← Hv1.out, h]; exact ord_eq _
        have Hn := hid hn
        clear hn a4 b4 k1 k2 hd
        go_wp2
        go_ret
        exact ⟨by rw [Hn.out]; rfl, Hw.out⟩
  · have hn : (l0.length < l1.length ∧ ord l0.length l1.length = ord n m) ∨ (l1.length < l0.length ∧ ord l0.length l1.length = ord n m) := by
      rcases Nat.lt_or_ge l0.length l1.length with h | h
      · exact Or.inl ⟨h, by have := k1 h; rw [ord_lt (by omega), ord_lt (by omega)]⟩
      · exact Or.inr ⟨by omega, by have := k2 (by omega); rw [ord_gt (by omega), ord_gt (by omega)]⟩
    have Hn : Hid (ord l0.length l1.length = ord n m) := by rcases hn with h | h <;> exact h.2
    clear hn a4 b4 k1 k2
    have hb : ((l0.length : Int) != (l1.length : Int)) = true := bne_iff_ne.2 (by omega)
    go_enter Try.func53, Try.ntmps53
    go_wp2_with (go_at_call 52; refine (cmpInt_any _ _ _).mono ?_; rintro e w' ⟨rfl, rfl⟩)
    go_ret
    exact ⟨by rw [← Hn.out]; rfl, 0, rfl⟩
end Go.Proofs.Ytlijekppbpefaaa
/- Fractions as rational numbers: low forms, orders, roundings. Plain mathematics. -/
namespace Go.Proofs.Ytlijekppbpefaaa
open Big
def lowBy (p q : Int) : Int := if q < 0 then -((Nat.gcd p.natAbs q.natAbs : Nat) : Int) else ((Nat.gcd p.natAbs q.natAbs : Nat) : Int)
theorem gcd_dvd_left (p q : Int) : ((Nat.gcd p.natAbs q.natAbs : Nat) : Int) ∣ p := Int.ofNat_dvd_left.2 (Nat.gcd_dvd_left _ _)
theorem gcd_dvd_right (p q : Int) : ((Nat.gcd p.natAbs q.natAbs : Nat) : Int) ∣ q := Int.ofNat_dvd_left.2 (Nat.gcd_dvd_right _ _)
theorem gcd_ne {p q : Int} (h : q ≠ 0) : ((Nat.gcd p.natAbs q.natAbs : Nat) : Int) ≠ 0 := by
  intro e
  have h0 : Nat.gcd p.natAbs q.natAbs = 0 := by omega
  have := (Nat.gcd_eq_zero_iff.1 h0).2
  omega
theorem lowBy_ne {p q : Int} (h : q ≠ 0) : lowBy p q ≠ 0 := by
  have := gcd_ne (p := p) h
  unfold lowBy; split <;> omega
theorem low_num {p q : Int} (h : q ≠ 0) : p / lowBy p q = (Rat.divInt p q).num := by
  rw [Rat.num_divInt, Int.gcd, Nat.gcd_comm]
  unfold lowBy
  split
  · rename_i hn
    rw [Int.sign_eq_neg_one_of_neg hn, Int.ediv_neg, Int.neg_mul, Int.one_mul, Int.neg_ediv_of_dvd (gcd_dvd_left p q)]
  · rw [Int.sign_eq_one_of_pos (by omega), Int.one_mul]
theorem low_den {p q : Int} (h : q ≠ 0) : q / lowBy p q = ((Rat.divInt p q).den : Int) := by
  rw [Rat.den_divInt, if_neg h, Int.gcd, Nat.gcd_comm]
  unfold lowBy
  split
  · rename_i hn
    rw [Int.ediv_neg, ← Int.neg_ediv_of_dvd (gcd_dvd_right p q), Int.natCast_ediv]
    congr 1; omega
  · rw [Int.natCast_ediv]
    congr 1; omega
theorem num_le {p q : Int} (h : q ≠ 0) : (Rat.divInt p q).num.natAbs ≤ p.natAbs := by
  rw [← low_num h]
  exact Int.natAbs_ediv_le_natAbs _ _
theorem den_le {p q : Int} (h : q ≠ 0) : (Rat.divInt p q).den ≤ q.natAbs := by
  rw [Rat.den_divInt, if_neg h]
  exact Nat.div_le_self _ _
def cq (x y : Rat) : Int := if x < y then -1 else if x = y then 0 else 1
theorem lt_divInt {p q r s : Int} (hq : 0 < q) (hs : 0 < s) : Rat.divInt p q < Rat.divInt r s ↔ p * s < r * q := by
  rw [Rat.lt_iff_sub_pos, Rat.divInt_sub_divInt _ _ (by omega) (by omega)]
  have h1 := @Rat.divInt_nonneg_iff_of_pos_right (p * s - r * q) (q * s) (Int.mul_pos hq hs)
  rw [← Rat.not_le, ← Rat.neg_le_neg_iff, Rat.neg_divInt, Rat.neg_zero, Rat.divInt_nonneg_iff_of_pos_right (Int.mul_pos hs hq)]
  omega
theorem cq_ord {p q r s : Int} (hq : 0 < q) (hs : 0 < s) : ord (p * s) (r * q) = cq (Rat.divInt p q) (Rat.divInt r s) := by
  unfold ord cq
  simp only [lt_divInt hq hs, Rat.divInt_eq_divInt_iff (show q ≠ 0 by omega) (show s ≠ 0 by omega)]
  repeat' split
  all_goals omega
theorem cq_sub (x y : Rat) : (x - y).num.sign = cq x y := by
  unfold cq
  by_cases h : x < y
  · rw [if_pos h]
    apply Int.sign_eq_neg_one_of_neg
    have : ¬ 0 ≤ (x - y).num := by
      rw [Rat.num_nonneg, ← Rat.le_iff_sub_nonneg, Rat.not_le]; exact h
    omega
  · rw [if_neg h]
    by_cases h2 : x = y
    · rw [if_pos h2, h2, Rat.sub_self]; rfl
    · rw [if_neg h2]
      apply Int.sign_eq_one_of_pos
      have h3 : 0 ≤ (x - y).num := by
        rw [Rat.num_nonneg, ← Rat.le_iff_sub_nonneg]; exact Rat.not_lt.1 h
      have h4 : (x - y).num ≠ 0 := by
        rw [Ne, Rat.num_eq_zero]
        intro e
        apply h2
        have := Rat.sub_add_cancel (a := x) (b := y)
        rw [e, Rat.zero_add] at this
        exact this.symm
      omega
theorem cq_turn (x y : Rat) : cq x y = -cq y x := by
  rw [← cq_sub, ← cq_sub, ← Rat.neg_sub, Rat.neg_num, Int.sign_neg]
theorem cq_pos {x y : Rat} : cq x y > 0 ↔ y < x := by
  have h := cq_turn x y
  unfold cq at *
  by_cases h1 : x < y
  · have hh := h1
    simp only [h1, if_true]
    constructor
    · intro h2; omega
    · intro h2; exact absurd h2 (Rat.not_lt.2 (Rat.le_of_lt hh))
  · by_cases h2 : x = y
    · simp [h2, Rat.lt_irrefl]
    · simp only [h1, h2, if_false]
      exact ⟨fun _ => Rat.lt_of_le_of_ne (Rat.not_lt.1 h1) (fun e => h2 e.symm), fun _ => by omega⟩
theorem cq_neg {x y : Rat} : cq x y < 0 ↔ x < y := by rw [cq_turn, ← cq_pos (x := y)]; omega
theorem cq_trans (x y z : Rat) : (cq x y > 0 ∨ cq y z > 0 ∨ cq x z ≤ 0) ∧ (cq x y < 0 ∨ cq y z < 0 ∨ cq x z ≥ 0) := by
  have e1 : cq x z ≤ 0 ↔ x ≤ z := by rw [← Rat.not_lt, ← cq_pos]; omega
  have e2 : cq x z ≥ 0 ↔ z ≤ x := by rw [← Rat.not_lt, ← cq_neg]; omega
  rw [e1, e2, cq_pos, cq_pos, cq_neg, cq_neg]
  constructor
  · by_cases h1 : y < x
    · exact .inl h1
    · by_cases h2 : z < y
      · exact .inr (.inl h2)
      · exact .inr (.inr (Rat.le_trans (Rat.not_lt.1 h1) (Rat.not_lt.1 h2)))
  · by_cases h1 : x < y
    · exact .inl h1
    · by_cases h2 : y < z
      · exact .inr (.inl h2)
      · exact .inr (.inr (Rat.le_trans (Rat.not_lt.1 h2) (Rat.not_lt.1 h1)))
theorem cq_self (x : Rat) : cq x x = 0 := by unfold cq; simp [Rat.lt_irrefl]
theorem floor_low {p q : Int} (hq : 0 < q) : p / q = (Rat.divInt p q).floor := by
  have hne : q ≠ 0 := by omega
  have hg := lowBy_ne (p := p) hne
  have hgp : 0 < lowBy p q := by
    unfold lowBy at *
    split at hg
    · omega
    · split
      · omega
      · omega
  rw [Rat.floor_def, ← low_num hne, ← low_den hne]
  have h1 : lowBy p q ∣ p := by unfold lowBy; split; exact Int.neg_dvd.2 (gcd_dvd_left p q); exact gcd_dvd_left p q
  have h2 : lowBy p q ∣ q := by unfold lowBy; split; exact Int.neg_dvd.2 (gcd_dvd_right p q); exact gcd_dvd_right p q
  generalize lowBy p q = g at *
  obtain ⟨a, ha⟩ := h1
  obtain ⟨b, hb⟩ := h2
  subst ha hb
  rw [Int.mul_ediv_cancel_left _ hg, Int.mul_ediv_cancel_left _ hg, Int.mul_ediv_mul_of_pos _ _ hgp]
theorem whole_iff {p q : Int} (hq : 0 < q) : p % q = 0 ↔ p / q = -(-p / q) := by
  have h1 := Int.mul_ediv_add_emod p q
  have h2 := Int.mul_ediv_add_emod (-p) q
  have h3 := Int.emod_nonneg p (show q ≠ 0 by omega)
  have h4 := Int.emod_nonneg (-p) (show q ≠ 0 by omega)
  have h5 := Int.emod_lt_of_pos p hq
  have h6 := Int.emod_lt_of_pos (-p) hq
  constructor
  · intro h
    rw [Int.neg_ediv_of_dvd (Int.dvd_of_emod_eq_zero h)]; omega
  · intro h
    have : q * (p / q) = - (q * (-p / q)) := by rw [h, Int.mul_neg]
    omega
end Go.Proofs.Ytlijekppbpefaaa
/- whole.trim: what is left is the digits without the noughts at the end. -/
namespace Go.Proofs.Ytlijekppbpefaaa
open Go.RowKit Big

set_option maxHeartbeats 400000 in
theorem trim_val (v : Value) (l : List Nat) (w : World) (h : At w .u64 v l) :
    Calls Try.prog 41 #[v] w (fun e w' => e = .returned (cutTo v (strip l).length) ∧ w' = w) := by
  obtain ⟨p, cap, rfl, h1, h2, h3, h4⟩ := h
  unfold maxLen at h2
  go_enter Try.func41, Try.ntmps41
  go_wp2
  go_loop [0] (fun s => ∃ k : Nat, k ≤ l.length ∧ s = .slice p k cap ∧ strip (l.take k) = strip l) (fun s => lenOf s)
  case atStart => exact ⟨l.length, Nat.le_refl _, rfl, by rw [List.take_length]⟩
  case round =>
    obtain ⟨k, hk, rfl, hs⟩ := hrel
    have Hs := hid hs; clear hs
    by_cases hk0 : 0 < k
    · obtain ⟨b, off, rfl, hb, hc⟩ := h4 (by omega)
      have hck : w.cell? ⟨b, off + (k - 1), none⟩ = some (.int .u64 (l[k-1]'(by omega) : Nat)) := hc (k - 1) (by omega)
      clear hc h4
      go_wp2
      · go_round
        case rel =>
          have hz : ((l[k-1]'(by omega) : Nat) == 0) = true := by simpa using ‹((l[k-1]'(by omega) : Nat) == (0 : Int)) = true›
          refine ⟨k - 1, by omega, rfl, ?_⟩
          rw [← Hs.out, ← strip_take (k := k - 1) (by omega) (by simpa using hz), Nat.sub_add_cancel hk0]
        case measure => simp [lenOf]; omega
      · have hz : ¬ (l[k-1]'(by omega) : Nat) = 0 := by
          have := ‹((l[k-1]'(by omega) : Nat) == (0 : Int)) = false›
          simpa using this
        have hs := strip_take_ne (l := l) (k := k - 1) (by omega) hz
        rw [Nat.sub_add_cancel hk0, Hs.out] at hs
        go_ret
        exact ⟨by rw [hs, List.length_take, Nat.min_eq_left hk]; rfl, rfl⟩
    · obtain rfl : k = 0 := by omega
      have hs : Hid (strip l = []) := by rw [← Hs.out]; rfl
      go_wp2
      go_ret
      exact ⟨by rw [hs.out]; rfl, rfl⟩
theorem strip_is_take (l : List Nat) : strip l = l.take (strip l).length := by
  induction l with
  | nil => rfl
  | cons x l ih =>
    simp only [strip]
    cases h : strip l with
    | nil => by_cases hx : x = 0 <;> simp [hx]
    | cons y m =>
      rw [h] at ih
      simp only [List.length_cons] at ih ⊢
      rw [List.take_succ_cons, ← ih]
theorem At.strip {w : World} {k : IntKind} {v : Value} {l : List Nat} (h : At w k v l) : At w k (cutTo v (strip l).length) (strip l) := by
  have := h.cut (Big.strip l).length (strip_length l)
  rwa [← strip_is_take] at this
theorem trim_any (v : Value) (l : List Nat) (w : World) (h : At w .u64 v l) : Calls Try.prog 41 #[v] w (RSame .u64 (strip l) w) :=
  (trim_val v l w h).mono fun _ _ ⟨he, hw⟩ => ⟨_, he, by subst hw; exact h.strip, hw.symm⟩
end Go.Proofs.Ytlijekppbpefaaa
/- whole's small functions: told, ownWord, word, own. -/
namespace Go.Proofs.Ytlijekppbpefaaa
open Go.RowKit Big

set_option maxHeartbeats 400000 in
theorem told_any (neg : Bool) (s : Value) (n : Nat) (w : World) (h : At w .u64 s (dig W n)) :
    Calls Try.prog 45 #[.bool neg, s] w (RInt (sg neg n) w) := by
  have hat := hid h
  obtain ⟨p, cap, rfl, h1, h2, h3, h4⟩ := h
  unfold maxLen at h2
  clear h4
  by_cases h0 : (dig W n).length = 0
  · have hn : n = 0 := (dig_eq_nil W2).1 (List.eq_nil_of_length_eq_zero h0)
    have Hn := hid hn; clear hn
    go_enter Try.func45, Try.ntmps45
    go_wp2
    exact bodyPost_ret (v := .agg #[.bool false, .slice none 0 0]) (by simp [results, Try.results45, go_sem]) rfl ⟨_, rfl, by rw [Hn.out, sg_zero]; exact IntAt.zero _, below1 _ _⟩
  · have hn : n ≠ 0 := fun e => h0 (by rw [e]; rfl)
    have Hn := hid hn; clear hn
    go_enter Try.func45, Try.ntmps45
    go_wp2
    exact bodyPost_ret (v := .agg #[.bool neg, .slice p (dig W n).length cap]) (by simp [results, Try.results45, go_sem]) rfl ⟨_, rfl, IntAt.mk Hn.out (hat.out.below (below1 _ _)), below1 _ _⟩

set_option maxHeartbeats 400000 in
theorem ownWord_any (x : Nat) (w : World) (hx : x < W) :
    Calls Try.prog 56 #[.int .u64 x] w (RAt .u64 (dig W x) w) := by
  by_cases h0 : x = 0
  · subst h0
    go_enter Try.func56, Try.ntmps56
    go_wp2
    go_ret
    exact ⟨_, rfl, At.nil _ _, Below.refl _ _⟩
  · have Hd := hid (dig_one W2 (by omega) hx)
    go_enter Try.func56, Try.ntmps56
    go_wp2
    go_ret
    exact ⟨_, rfl, by rw [Hd.out]; exact At.one _ _ _ _, below1 _ _⟩

set_option maxHeartbeats 400000 in
theorem word_any (v : Value) (l : List Nat) (w : World) (h : At w .u64 v l) :
    Calls Try.prog 57 #[v] w fun e w' => e = .returned (.int .u64 (l.headD 0 : Nat)) ∧ w = w' := by
  obtain ⟨p, cap, rfl, h1, h2, h3, h4⟩ := h
  unfold maxLen at h2
  cases l with
  | nil =>
    go_enter Try.func57, Try.ntmps57
    go_wp2
    go_ret
    exact ⟨rfl, rfl⟩
  | cons x l =>
    obtain ⟨b, off, rfl, hb, hc⟩ := h4 (by simp)
    have hck : w.cell? ⟨b, off, none⟩ = some (.int .u64 x) := hc 0 (by simp)
    clear hc h4
    have hl : (l.length + 1 == 0) = false := by simp
    have hl2 : 0 < l.length + 1 := by omega
    rw [List.length_cons] at *
    go_enter Try.func57, Try.ntmps57
    go_wp2
    go_ret
    exact ⟨rfl, rfl⟩

end Go.Proofs.Ytlijekppbpefaaa
/- whole.own, whole.plus: sums of words with carries. -/
namespace Go.Proofs.Ytlijekppbpefaaa
open Go.RowKit Big

set_option maxHeartbeats 400000 in
theorem own_any (v : Value) (l : List Nat) (w : World) (h : At w .u64 v l) (hl : l.length ≤ 1099511627776) :
    Calls Try.prog 46 #[v] w (ROwn 43 .u64 (strip l) w) := by
  have hs := strip_length l
  go_enter Try.func46, Try.ntmps46
  go_wp2_with (first
    | (go_at_call 41; refine (trim_any _ l _ h).mono ?_; rintro e w' ⟨v', rfl, hv', rfl⟩)
    | (at_builtin; refine wpList_append_at rfl _ _ 23 rfl elemNat w.heap.size _ [] rfl (Own.nil _ _ _ _) _ (strip l) rfl hv' (by simp [maxLen]; omega) (by simp; omega) (Nat.le_refl _) ?_; intro v2 w2 ho hb _))
  go_ret
  exact ⟨_, rfl, by simpa using ho, hb⟩

/-- math/bits.Add64, its sum and carry under names -/
theorem add64 (x y c : Nat) (hc : c ≤ 1) : ∃ s c', x + y + c = s + W * c' ∧ s < W ∧ (x < W → y < W → c' ≤ 1) ∧
    ∀ w, (callFunc 61 #[.int .u64 (x : Nat), .int .u64 (y : Nat), .int .u64 (c : Nat)]).run Try.prog w = .ok (.value (.tuple #[.int .u64 (s : Nat), .int .u64 (c' : Nat)])) w := by
  refine ⟨(x + y + c) % W, (x + y + c) / W, (Nat.mod_add_div _ _).symm, Nat.mod_lt _ (by decide), ?_, fun w => ?_⟩
  · intro h1 h2
    have : (x + y + c) / W < 2 := (Nat.div_lt_iff_lt_mul (by decide)).2 (by omega)
    omega
  · rw [run_callFunc_extern Try.func61 (by kernel_rfl) (by kernel_rfl) (by kernel_rfl) (e := add64Entry) (by kernel_rfl), run_add64 x y c (by omega) (by omega) (by omega) (by omega)]
    simp only [Result.andThen, W]
    congr 5 <;> omega
/-- math/bits.Sub64, likewise -/
theorem sub64 (x y b : Nat) (hx : x < W) (hy : y < W) (hb : b ≤ 1) : ∃ s b', x + W * b' = s + y + b ∧ s < W ∧ b' ≤ 1 ∧
    ∀ w, (callFunc 62 #[.int .u64 (x : Nat), .int .u64 (y : Nat), .int .u64 (b : Nat)]).run Try.prog w = .ok (.value (.tuple #[.int .u64 (s : Nat), .int .u64 (b' : Nat)])) w := by
  unfold W at *
  refine ⟨(x + 18446744073709551616 - y - b) % 18446744073709551616, if x < y + b then 1 else 0, ?_, Nat.mod_lt _ (by decide), ?_, fun w => ?_⟩
  · split <;> omega
  · split <;> omega
  · rw [run_callFunc_extern Try.func62 (by kernel_rfl) (by kernel_rfl) (by kernel_rfl) (e := sub64Entry) (by kernel_rfl), run_sub64 x y b hb]
    rfl

def RPlus (l0 l1 : List Nat) (w : World) (e : Ending) (w' : World) : Prop := ∃ l c, Small W l ∧ l.length = l0.length ∧ c ≤ 1 ∧ val W l + c * W ^ l0.length = val W l0 + val W l1 ∧
      ROwn 43 .u64 (if c = 0 then l else l ++ [c]) w e w'
theorem plus_step {l l0 l1 : List Nat} {k x y c s c2 : Nat} {hk : k < l0.length} (hl : l.length = k) (hx : x = l0[k]) (hy : y = l1[k]?.getD 0) (hs : x + y + c = s + W * c2)
    (hv : val W l + c * W ^ k = val W (l0.take k) + val W (l1.take k)) : val W (l ++ [s]) + c2 * W ^ (k + 1) = val W (l0.take (k + 1)) + val W (l1.take (k + 1)) := by
  rw [val_snoc, val_take_succ W l0 k hk, val_take_getD, hl, ← hx, ← hy, Nat.pow_succ]
  exact add_step hs hv

set_option maxRecDepth 100000 in
set_option maxHeartbeats 800000 in
theorem plus_at (sw : Bool) (v0 v1 : Value) (l0 l1 : List Nat) (w : World) (h0 : At w .u64 v0 l0) (h1 : At w .u64 v1 l1) (s0 : Small W l0) (s1 : Small W l1)
    (hl : if sw then l1.length < l0.length else l1.length ≤ l0.length) (hlen : l0.length ≤ 1099511627776) :
    Calls Try.prog 43 (if sw then #[v1, v0] else #[v0, v1]) w (RPlus l0 l1 w) := by
  obtain ⟨p0, c0, rfl, a1, a2, a3, a4⟩ := h0
  obtain ⟨p1, c1, rfl, b1, b2, b3, b4⟩ := h1
  cases sw
  all_goals
    first | simp only [if_true] at hl ⊢ | simp only [if_false, Bool.false_eq_true] at hl ⊢
    go_enter Try.func43, Try.ntmps43
    unfold maxLen at a2 b2
    go_wp2_with (first
      | (at_make; refine wpList_make_at rfl _ _ 23 rfl elemNat w.heap.size _ _ _ (l0.length + 1) rfl rfl (by simp) (by omega) (by simp [maxLen]; omega) (Nat.le_refl _) ?_; intro vo w1 ho hb1 hs1 hvo; clear hvo))
    go_loopw [5, 6, 23] (fun o c i wr => ∃ (k : Nat) (l : List Nat) (c' : Nat), k ≤ l0.length ∧ i = .int .i64 (k : Nat) ∧ c = .int .u64 (c' : Nat) ∧ c' ≤ 1 ∧ Own wr w.heap.size 43 .u64 o l ∧ l.length = k ∧ Small W l ∧
        Hid (val W l + c' * W ^ k = val W (l0.take k) + val W (l1.take k)) ∧ Below w.heap.size w wr) (fun _ _ i _ => l0.length - (intOf i).toNat)
    case atStart => exact ⟨0, [], 0, Nat.zero_le _, rfl, rfl, by omega, ho, rfl, small_nil _, by simp [Hid, val], hb1⟩
    case round =>
      obtain ⟨k, l, c', hk, rfl, rfl, hc', hown, hlk, hsl, hv, hbel⟩ := hrel
      have Hlk := hid hlk; clear hlk
      by_cases hkl : k < l0.length
      · obtain ⟨b, off, rfl, hbb, hcell⟩ := a4 (by omega)
        have e0 : wr.cell? ⟨b, off + k, none⟩ = some (.int .u64 (l0[k] : Nat)) := (hbel.cell (p := ⟨b, off + k, none⟩) hbb).trans (hcell k hkl)
        have x0 := small_get s0 k hkl
        obtain ⟨x, hx⟩ : ∃ x, x = l0[k] := ⟨_, rfl⟩
        rw [← hx] at e0 x0
        have Hx := hid hx; clear hx hcell a4
        by_cases hk1 : k < l1.length
        · obtain ⟨b', off', rfl, hbb', hcell'⟩ := b4 (by omega)
          have e1 : wr.cell? ⟨b', off' + k, none⟩ = some (.int .u64 (l1[k] : Nat)) := (hbel.cell (p := ⟨b', off' + k, none⟩) hbb').trans (hcell' k hk1)
          have y0 := small_get s1 k hk1
          obtain ⟨y, hy⟩ : ∃ y, y = l1[k] := ⟨_, rfl⟩
          rw [← hy] at e1 y0
          have Hy : Hid (y = l1[k]?.getD 0) := by unfold Hid; simpa [hk1] using hy
          clear hy hcell' b4
          obtain ⟨s, c2, hs, hsW, hc2, hadd⟩ := add64 x y c' hc'
          have hc2 := hc2 x0 y0
          have Hs := hid hs; clear hs
          go_wp2_with (first
            | (at_builtin; refine wpList_append_at rfl _ _ 23 rfl elemNat w.heap.size _ l rfl (hown.alloc _) _ [s] rfl (At.one _ _ _ _) (by rw [Hlk.out]; simp [maxLen]; omega) (by rw [Hlk.out]; simp; omega) (by have := hbel.size; simp; omega) ?_; intro v2 w2 ho2 hb2 hs2))
          go_roundw
          case rel => exact ⟨k + 1, l ++ [s], c2, by omega, by go_num, rfl, hc2, ho2, by simp [Hlk.out], small_snoc hsl hsW,
              plus_step Hlk.out Hx.out Hy.out Hs.out hv.out, (hbel.trans ((below1 _ _).mono hbel.size)).trans hb2⟩
          case measure => simp [intOf]; omega
        · obtain ⟨y, hy⟩ : ∃ y, y = 0 := ⟨_, rfl⟩
          have y0 : y < W := by rw [hy]; decide
          have Hy : Hid (y = l1[k]?.getD 0) := by unfold Hid; simpa [hk1] using hy
          obtain ⟨s, c2, hs, hsW, hc2, hadd⟩ := add64 x y c' hc'
          have hc2 := hc2 x0 y0
          have Hs := hid hs; clear hs
          rw [hy] at hadd; simp only [Int.natCast_zero] at hadd; clear hy
          go_wp2_with (first
            | (at_builtin; refine wpList_append_at rfl _ _ 23 rfl elemNat w.heap.size _ l rfl (hown.alloc _) _ [s] rfl (At.one _ _ _ _) (by rw [Hlk.out]; simp [maxLen]; omega) (by rw [Hlk.out]; simp; omega) (by have := hbel.size; simp; omega) ?_; intro v2 w2 ho2 hb2 hs2))
          go_roundw
          case rel => exact ⟨k + 1, l ++ [s], c2, by omega, by go_num, rfl, hc2, ho2, by simp [Hlk.out], small_snoc hsl hsW,
              plus_step Hlk.out Hx.out Hy.out Hs.out hv.out, (hbel.trans ((below1 _ _).mono hbel.size)).trans hb2⟩
          case measure => simp [intOf]; omega
      · obtain rfl : k = l0.length := by omega
        have hv' : val W l + c' * W ^ l0.length = val W l0 + val W l1 := by
          have := hv.out
          rwa [List.take_length, val_take_ge W l1 _ (by omega)] at this
        have Hv := hid hv'; clear hv hv' a4 b4
        by_cases hc0 : c' = 0
        · subst hc0
          go_wp2
          go_ret
          exact ⟨l, 0, hsl, Hlk.out, by omega, Hv.out, _, rfl, by simpa using hown, hbel⟩
        · obtain rfl : c' = 1 := by omega
          go_wp2_with (first
            | (at_builtin; refine wpList_append_at rfl _ _ 23 rfl elemNat w.heap.size _ l rfl (hown.alloc _) _ [1] rfl (At.one _ _ _ _) (by rw [Hlk.out]; simp [maxLen]; omega) (by rw [Hlk.out]; simp; omega) (by have := hbel.size; simp; omega) ?_; intro v2 w2 ho2 hb2 hs2))
          go_ret
          exact ⟨l, 1, hsl, Hlk.out, by omega, Hv.out, _, rfl, by simpa using ho2, (hbel.trans ((below1 _ _).mono hbel.size)).trans hb2⟩

/-- whole.plus of two numbers' digits: the sum's digits -/
theorem plus_any (va vb : Value) (n m : Nat) (w : World) (h0 : At w .u64 va (dig W n)) (h1 : At w .u64 vb (dig W m)) (hn : sz W n ≤ 1099511627776) (hm : sz W m ≤ 1099511627776) :
    Calls Try.prog 43 #[va, vb] w (ROwn 43 .u64 (dig W (n + m)) w) := by
  have key : ∀ l0 l1 : Nat, sz W l1 ≤ sz W l0 → ∀ e w', RPlus (dig W l0) (dig W l1) w e w' → ROwn 43 .u64 (dig W (l0 + l1)) w e w' := by
    rintro n m hnm e w' ⟨l, c, hs, hl, hc, hv, hr⟩
    rw [val_dig W2, val_dig W2] at hv
    have : (if c = 0 then l else l ++ [c]) = dig W (n + m) := by
      by_cases hc0 : c = 0
      · subst hc0
        rw [if_pos rfl]
        refine canon_val W2 hs (by omega) ?_
        by_cases h0 : n = 0
        · left; subst h0; exact List.eq_nil_of_length_eq_zero hl
        · right; rw [hl]; exact Nat.le_trans (pow_sz_le W2 (by omega)) (by omega)
      · obtain rfl : c = 1 := by omega
        rw [if_neg hc0]
        refine canon_val W2 (small_snoc hs (by decide)) (by rw [val_snoc, hl]; omega) (Or.inr ?_)
        simp only [List.length_append, List.length_singleton, Nat.add_sub_cancel, hl]
        omega
    rw [← this]; exact hr
  by_cases hlt : (dig W n).length < (dig W m).length
  · have := plus_at true vb va (dig W m) (dig W n) w h1 h0 (small_dig W2 _) (small_dig W2 _) (by simpa using hlt) hm
    refine this.mono fun e w' h => ?_
    rw [Nat.add_comm]
    exact key m n (Nat.le_of_lt hlt) e w' h
  · have := plus_at false va vb (dig W n) (dig W m) w h0 h1 (small_dig W2 _) (small_dig W2 _) (by simpa using hlt) hn
    exact this.mono fun e w' h => key n m (by unfold sz; omega) e w' h
end Go.Proofs.Ytlijekppbpefaaa
/- whole.minus: differences of words with borrows. -/
namespace Go.Proofs.Ytlijekppbpefaaa
open Go.RowKit Big

theorem minus_step {l l0 l1 : List Nat} {k x y c s c2 : Nat} {hk : k < l0.length} (hl : l.length = k) (hx : x = l0[k]) (hy : y = l1[k]?.getD 0) (hs : x + W * c2 = s + y + c)
    (hv : val W l + val W (l1.take k) = val W (l0.take k) + c * W ^ k) : val W (l ++ [s]) + val W (l1.take (k + 1)) = val W (l0.take (k + 1)) + c2 * W ^ (k + 1) := by
  rw [val_snoc, val_take_succ W l0 k hk, val_take_getD, hl, ← hx, ← hy, Nat.pow_succ]
  exact sub_step hs hv

set_option maxRecDepth 100000 in
set_option maxHeartbeats 800000 in
/-- whole.minus of two numbers' digits, the second no greater: the difference's digits -/
theorem minus_any (v0 v1 : Value) (n m : Nat) (w : World) (h0 : At w .u64 v0 (dig W n)) (h1 : At w .u64 v1 (dig W m)) (hmn : m ≤ n) (hlen : sz W n ≤ 1099511627776) :
    Calls Try.prog 44 #[v0, v1] w (RAt .u64 (dig W (n - m)) w) := by
  have s0 := small_dig W2 n
  have s1 := small_dig W2 m
  have hl : (dig W m).length ≤ (dig W n).length := sz_mono W2 hmn
  have hvv : val W (dig W m) ≤ val W (dig W n) ∧ val W (dig W n) - val W (dig W m) = n - m := by rw [val_dig W2, val_dig W2]; exact ⟨hmn, rfl⟩
  unfold sz at hlen
  have Hvv := hid hvv; clear hvv hmn
  obtain ⟨r, hr⟩ : ∃ r, r = dig W (n - m) := ⟨_, rfl⟩
  rw [← hr]
  have Hr := hid hr; clear hr
  generalize dig W n = l0 at *
  generalize dig W m = l1 at *
  obtain ⟨p0, c0, rfl, a1, a2, a3, a4⟩ := h0
  obtain ⟨p1, c1, rfl, b1, b2, b3, b4⟩ := h1
  unfold maxLen at a2 b2
  go_enter Try.func44, Try.ntmps44
  go_wp2_with (first
    | (at_make; refine wpList_make_at rfl _ _ 23 rfl elemNat w.heap.size _ _ _ l0.length rfl rfl (by simp) (by omega) (by simp [maxLen]; omega) (Nat.le_refl _) ?_; intro vo w1 ho hb1 hs1 hvo; clear hvo))
  go_loopw [5, 6, 15] (fun o c i wr => ∃ (k : Nat) (l : List Nat) (c' : Nat), k ≤ l0.length ∧ i = .int .i64 (k : Nat) ∧ c = .int .u64 (c' : Nat) ∧ c' ≤ 1 ∧ Own wr w.heap.size 43 .u64 o l ∧ l.length = k ∧ Small W l ∧
      Hid (val W l + val W (l1.take k) = val W (l0.take k) + c' * W ^ k) ∧ Below w.heap.size w wr) (fun _ _ i _ => l0.length - (intOf i).toNat)
  case atStart => exact ⟨0, [], 0, Nat.zero_le _, rfl, rfl, by omega, ho, rfl, small_nil _, by simp [Hid, val], hb1⟩
  case round =>
    obtain ⟨k, l, c', hk, rfl, rfl, hc', hown, hlk, hsl, hv, hbel⟩ := hrel
    have Hlk := hid hlk; clear hlk
    by_cases hkl : k < l0.length
    · obtain ⟨b, off, rfl, hbb, hcell⟩ := a4 (by omega)
      have e0 : wr.cell? ⟨b, off + k, none⟩ = some (.int .u64 (l0[k] : Nat)) := (hbel.cell (p := ⟨b, off + k, none⟩) hbb).trans (hcell k hkl)
      have x0 := small_get s0 k hkl
      obtain ⟨x, hx⟩ : ∃ x, x = l0[k] := ⟨_, rfl⟩
      rw [← hx] at e0 x0
      have Hx := hid hx; clear hx hcell a4
      by_cases hk1 : k < l1.length
      · obtain ⟨b', off', rfl, hbb', hcell'⟩ := b4 (by omega)
        have e1 : wr.cell? ⟨b', off' + k, none⟩ = some (.int .u64 (l1[k] : Nat)) := (hbel.cell (p := ⟨b', off' + k, none⟩) hbb').trans (hcell' k hk1)
        have y0 := small_get s1 k hk1
        obtain ⟨y, hy⟩ : ∃ y, y = l1[k] := ⟨_, rfl⟩
        rw [← hy] at e1 y0
        have Hy : Hid (y = l1[k]?.getD 0) := by unfold Hid; simpa [hk1] using hy
        clear hy hcell' b4
        obtain ⟨s, c2, hs, hsW, hc2, hadd⟩ := sub64 x y c' x0 y0 hc'
        have Hs := hid hs; clear hs
        go_wp2_with (first
          | (at_builtin; refine wpList_append_at rfl _ _ 23 rfl elemNat w.heap.size _ l rfl (hown.alloc _) _ [s] rfl (At.one _ _ _ _) (by rw [Hlk.out]; simp [maxLen]; omega) (by rw [Hlk.out]; simp; omega) (by have := hbel.size; simp; omega) ?_; intro v2 w2 ho2 hb2 hs2))
        go_roundw
        case rel => exact ⟨k + 1, l ++ [s], c2, by omega, by go_num, rfl, hc2, ho2, by simp [Hlk.out], small_snoc hsl hsW,
            minus_step Hlk.out Hx.out Hy.out Hs.out hv.out, (hbel.trans ((below1 _ _).mono hbel.size)).trans hb2⟩
        case measure => simp [intOf]; omega
      · obtain ⟨y, hy⟩ : ∃ y, y = 0 := ⟨_, rfl⟩
        have y0 : y < W := by rw [hy]; decide
        have Hy : Hid (y = l1[k]?.getD 0) := by unfold Hid; simpa [hk1] using hy
        obtain ⟨s, c2, hs, hsW, hc2, hadd⟩ := sub64 x y c' x0 y0 hc'
        have Hs := hid hs; clear hs
        rw [hy] at hadd; simp only [Int.natCast_zero] at hadd; clear hy
        go_wp2_with (first
          | (at_builtin; refine wpList_append_at rfl _ _ 23 rfl elemNat w.heap.size _ l rfl (hown.alloc _) _ [s] rfl (At.one _ _ _ _) (by rw [Hlk.out]; simp [maxLen]; omega) (by rw [Hlk.out]; simp; omega) (by have := hbel.size; simp; omega) ?_; intro v2 w2 ho2 hb2 hs2))
        go_roundw
        case rel => exact ⟨k + 1, l ++ [s], c2, by omega, by go_num, rfl, hc2, ho2, by simp [Hlk.out], small_snoc hsl hsW,
            minus_step Hlk.out Hx.out Hy.out Hs.out hv.out, (hbel.trans ((below1 _ _).mono hbel.size)).trans hb2⟩
        case measure => simp [intOf]; omega
    · obtain rfl : k = l0.length := by omega
      have hv' : val W l + val W l1 = val W l0 + c' * W ^ l0.length := by
        have := hv.out
        rwa [List.take_length, val_take_ge W l1 _ (by omega)] at this
      have hlt := val_lt (by decide : 0 < W) hsl
      have e : strip l = r := by
        rw [strip_dig W2 hsl, Hr.out, ← Hvv.out.2]
        have := Hvv.out.1
        rw [Hlk.out] at hlt
        have : c' = 0 := by
          rcases (by omega : c' = 0 ∨ c' = 1) with h | h
          · exact h
          · subst h; omega
        subst this
        congr 1; omega
      have He := hid e; clear hv hv' e hlt a4 b4
      go_wp2_with (first
        | (go_at_call 41; refine (trim_any _ l _ hown.at).mono ?_; rintro e w' ⟨v', rfl, hv', rfl⟩))
      go_ret
      exact ⟨_, rfl, by rw [← He.out]; exact hv', hbel⟩
end Go.Proofs.Ytlijekppbpefaaa
/- Small facts on new blocks. -/
namespace Go.Proofs.Ytlijekppbpefaaa
open Go.RowKit Big
theorem size_alloc (w : World) (o : Obj) : (w.alloc o).heap.size = w.heap.size + 1 := by simp
theorem heap_new1 (w : World) (o : Obj) : (w.alloc o).drew.heap[w.heap.size]? = some o := heap_alloc_new w o
theorem heap_new2 (w : World) (o1 o2 : Obj) : ((w.alloc o1).alloc o2).drew.heap[w.heap.size + 1]? = some o2 := by
  have := heap_alloc_new (w.alloc o1) o2
  rwa [size_alloc] at this
theorem heap_new3 (w : World) (o1 o2 o3 : Obj) : (((w.alloc o1).alloc o2).alloc o3).drew.heap[w.heap.size + 2]? = some o3 := by
  have := heap_alloc_new ((w.alloc o1).alloc o2) o3
  rwa [size_alloc, size_alloc] at this
theorem two_cells {w : World} {g : Nat} {a b : Value} {t : TypeId} (h : w.heap[g]? = some (.cells #[a, b] t (0, 0))) :
    w.cell? ⟨g, 0, none⟩ = some a ∧ w.cell? ⟨g, 1, none⟩ = some b ∧ w.frozen? ⟨g, 0, none⟩ = false ∧ w.frozen? ⟨g, 1, none⟩ = false :=
  ⟨by rw [cell_of_row w g 0 _ t (0, 0) h]; rfl, by rw [cell_of_row w g 1 _ t (0, 0) h]; rfl, frozen_of_row w g 0 _ t h, frozen_of_row w g 1 _ t h⟩
/-- block g is a variable that holds a whole number: a bool and a slice -/
def Pair (w : World) (g : Nat) (t : TypeId) : Prop := ∃ x p n c, w.heap[g]? = some (.cells #[.bool x, .slice p n c] t (0, 0))
theorem Pair.cells {w : World} {g : Nat} {t : TypeId} (h : Pair w g t) : ∃ a b, w.cell? ⟨g, 0, none⟩ = some a ∧ w.cell? ⟨g, 1, none⟩ = some b ∧ w.frozen? ⟨g, 0, none⟩ = false ∧ w.frozen? ⟨g, 1, none⟩ = false := by
  obtain ⟨x, p, n, c, h⟩ := h
  exact ⟨_, _, two_cells h⟩
theorem Pair.below {w w' : World} {g : Nat} {t : TypeId} (h : Pair w g t) (hb : Below w.heap.size w w') : Pair w' g t := by
  obtain ⟨x, p, n, c, h⟩ := h
  exact ⟨x, p, n, c, (hb.block g (Array.getElem?_eq_some_iff.1 h).1).trans h⟩
theorem Pair.lt {w : World} {g : Nat} {t : TypeId} (h : Pair w g t) : g < w.heap.size := by
  obtain ⟨x, p, n, c, h⟩ := h
  exact (Array.getElem?_eq_some_iff.1 h).1
theorem Pair.set0 {w : World} {g : Nat} {t : TypeId} (h : Pair w g t) (x : Bool) : Pair (w.setCell ⟨g, 0, none⟩ (.bool x)) g t := by
  obtain ⟨y, p, n, c, h⟩ := h
  exact ⟨x, p, n, c, heap_setCell_same w g 0 _ t _ h⟩
theorem Pair.set1 {w : World} {g : Nat} {t : TypeId} (h : Pair w g t) (p : Option Addr) (n c : Nat) : Pair (w.setCell ⟨g, 1, none⟩ (.slice p n c)) g t := by
  obtain ⟨y, p', n', c', h⟩ := h
  exact ⟨y, p, n, c, heap_setCell_same w g 1 _ t _ h⟩
theorem Pair.drew {w : World} {g : Nat} {t : TypeId} (h : Pair w g t) : Pair w.drew g t := h
theorem Pair.new (w : World) (x : Bool) (p : Option Addr) (n c : Nat) (t : TypeId) : Pair (w.alloc (.cells #[.bool x, .slice p n c] t)) w.heap.size t := ⟨x, p, n, c, heap_alloc_new w _⟩
theorem Pair.new1 (w : World) (o : Obj) (x : Bool) (p : Option Addr) (n c : Nat) (t : TypeId) : Pair ((w.alloc o).alloc (.cells #[.bool x, .slice p n c] t)) (w.heap.size + 1) t := by
  have := Pair.new (w.alloc o) x p n c t
  rwa [size_alloc] at this
theorem Pair.new2 (w : World) (o o' : Obj) (x : Bool) (p : Option Addr) (n c : Nat) (t : TypeId) : Pair (((w.alloc o).alloc o').alloc (.cells #[.bool x, .slice p n c] t)) (w.heap.size + 2) t := by
  have := Pair.new ((w.alloc o).alloc o') x p n c t
  rwa [size_alloc, size_alloc] at this
theorem Pair.new3 (w : World) (o o' o'' : Obj) (x : Bool) (p : Option Addr) (n c : Nat) (t : TypeId) : Pair ((((w.alloc o).alloc o').alloc o'').alloc (.cells #[.bool x, .slice p n c] t)) (w.heap.size + 1 + 1 + 1) t := by
  have := Pair.new (((w.alloc o).alloc o').alloc o'') x p n c t
  rwa [size_alloc, size_alloc, size_alloc] at this
/-- a store into such a variable turns no slice of numbers -/
theorem At.set {w : World} {k : IntKind} {v : Value} {l : List Nat} {g : Nat} {t : TypeId} (h : At w k v l) (hp : Pair w g t) (j : Nat) (u : Value) : At (w.setCell ⟨g, j, none⟩ u) k v l := by
  obtain ⟨p, cap, hv, h1, h2, h3, h4⟩ := h
  refine ⟨p, cap, hv, h1, h2, h3, fun hl => ?_⟩
  obtain ⟨b, off, h5, h6, h7⟩ := h4 hl
  have hne : b ≠ g := by
    rintro rfl
    obtain ⟨x, q, n, c, hh⟩ := hp
    have h0 := h7 0 hl
    rw [cell_of_row w b (off + 0) _ t (0, 0) hh] at h0
    rcases (by omega : off = 0 ∨ off = 1 ∨ 2 ≤ off) with e | e | e
    · subst e; simp at h0
    · subst e; simp at h0
    · rw [Array.getElem?_eq_none (by simpa using e)] at h0; cases h0
  refine ⟨b, off, h5, by simpa [World.setCell] using h6, fun i hi => ?_⟩
  rw [← h7 i hi]
  exact World.cell?_of_block (w := w) (Below.heap_setCell w _ u b hne)
theorem At.stored {w : World} {k : IntKind} {v : Value} {l : List Nat} {g : Nat} {t : TypeId} (h : At w k v l) (hp : Pair w g t) (x : Bool) (p : Option Addr) (n c : Nat) :
    At ((w.setCell ⟨g, 0, none⟩ (.bool x)).setCell ⟨g, 1, none⟩ (.slice p n c)) k v l := (h.set hp 0 _).set (hp.set0 x) 1 _
theorem IntAt.stored {w : World} {v : Value} {z : Int} {g : Nat} {t : TypeId} (h : IntAt w v z) (hp : Pair w g t) (x : Bool) (p : Option Addr) (n c : Nat) :
    IntAt ((w.setCell ⟨g, 0, none⟩ (.bool x)).setCell ⟨g, 1, none⟩ (.slice p n c)) v z := by
  obtain ⟨s, hs, ha⟩ := h
  exact ⟨s, hs, ha.stored hp x p n c⟩
theorem Below.stored {B : Nat} {w w' : World} (h : Below B w w') {g : Nat} (hg : B ≤ g) (u u' : Value) : Below B w ((w'.setCell ⟨g, 0, none⟩ u).setCell ⟨g, 1, none⟩ u') :=
  (h.setCell (p := ⟨g, 0, none⟩) hg u).setCell (p := ⟨g, 1, none⟩) hg u'
theorem IntAt.shape {w : World} {v : Value} {z : Int} (h : IntAt w v z) : ∃ p n c, v = .agg #[.bool (decide (z < 0)), .slice p n c] ∧ IntAt w (.agg #[.bool (decide (z < 0)), .slice p n c]) z := by
  obtain ⟨s, rfl, p, c, rfl, r⟩ := h
  exact ⟨p, _, c, rfl, _, rfl, p, c, rfl, r⟩
theorem At.oneI (w : World) (k : IntKind) (e : Int) (x : Nat) (t : TypeId) (h : e = (x : Int)) : At (w.alloc (.cells #[.int k e] t)) k (.slice (some ⟨w.heap.size, 0, none⟩) 1 1) [x] := by
  subst h; exact At.one w k x t
theorem cell_stored (w : World) {g : Nat} {p : Addr} (h : p.block ≠ g) (u u' : Value) : ((w.setCell ⟨g, 0, none⟩ u).setCell ⟨g, 1, none⟩ u').cell? p = w.cell? p :=
  World.cell?_of_block (w := w) ((Below.heap_setCell _ _ _ _ h).trans (Below.heap_setCell _ _ _ _ h))
/-- the cells of two variables that a call has laid for its arguments -/
structure Two (w : World) (g : Nat) (a b c d : Value) : Prop where
  c00 : w.cell? ⟨g, 0, none⟩ = some a
  c01 : w.cell? ⟨g, 1, none⟩ = some b
  c10 : w.cell? ⟨g + 1, 0, none⟩ = some c
  c11 : w.cell? ⟨g + 1, 1, none⟩ = some d
  lt : g + 2 ≤ w.heap.size
theorem Two.new (w : World) (a b c d : Value) (t : TypeId) : Two ((w.alloc (.cells #[a, b] t)).alloc (.cells #[c, d] t)) w.heap.size a b c d := by
  have h0 : ((w.alloc (.cells #[a, b] t)).alloc (.cells #[c, d] t)).heap[w.heap.size]? = some (.cells #[a, b] t (0, 0)) := by
    rw [heap_alloc_old _ _ (by simp)]; exact heap_alloc_new w _
  have h1 : ((w.alloc (.cells #[a, b] t)).alloc (.cells #[c, d] t)).heap[w.heap.size + 1]? = some (.cells #[c, d] t (0, 0)) := heap_new2 w _ _
  exact ⟨(two_cells h0).1, (two_cells h0).2.1, (two_cells h1).1, (two_cells h1).2.1, by simp⟩
theorem Two.below {w w' : World} {g : Nat} {a b c d : Value} (h : Two w g a b c d) (hb : Below w.heap.size w w') : Two w' g a b c d :=
  ⟨(hb.cell (p := ⟨g, 0, none⟩) (by have := h.lt; show g < _; omega)).trans h.c00, (hb.cell (p := ⟨g, 1, none⟩) (by have := h.lt; show g < _; omega)).trans h.c01,
   (hb.cell (p := ⟨g + 1, 0, none⟩) (by have := h.lt; show g + 1 < _; omega)).trans h.c10, (hb.cell (p := ⟨g + 1, 1, none⟩) (by have := h.lt; show g + 1 < _; omega)).trans h.c11, Nat.le_trans h.lt hb.size⟩
end Go.Proofs.Ytlijekppbpefaaa
/- whole.Norm, Neg, Sign, Cmp, Add, Sub. -/
namespace Go.Proofs.Ytlijekppbpefaaa
open Go.RowKit Big

end Go.Proofs.Ytlijekppbpefaaa
/- whole.Neg, Sign, Cmp, Add, Sub. -/
namespace Go.Proofs.Ytlijekppbpefaaa
open Go.RowKit Big

set_option maxHeartbeats 800000 in
theorem Neg_any (v : Value) (z : Int) (w : World) (h : RawAt w v z) : Calls Try.prog 25 #[v] w (RInt (-z) w) := by
  obtain ⟨neg, s, l, rfl, ha, hs, hl, rfl⟩ := h
  have Hs := hid (strip_dig W2 hs)
  have Hz : Hid (-sg neg (val W l) = sg (!neg) (val W l)) := by unfold Hid sg; cases neg <;> simp
  obtain ⟨z, hz⟩ : ∃ z, z = -sg neg (val W l) := ⟨_, rfl⟩
  rw [← hz]
  rw [← hz] at Hz
  clear hz
  go_enter Try.func25, Try.ntmps25
  go_wp2_with fail
  go_region_held3 (fun w' => w'.cell? ⟨w.heap.size, 0, none⟩ = some (.bool neg) ∧ w'.cell? ⟨w.heap.size, 1, none⟩ = some s ∧ Pair w' (w.heap.size + 1) 25)
    (first | (go_split_ands; (try dsimp only); (repeat' apply And.intro) <;> first | assumption | exact Pair.drew ‹_› | exact Pair.below ‹_› hb9 | exact Pair.below ‹_› hb8 | exact Pair.below ‹_› hb7 | exact Pair.below ‹_› hb6 | exact Pair.below ‹_› hb5 | exact Pair.below ‹_› hb4 | exact Pair.below ‹_› hb3 | exact Pair.below ‹_› hb2 | exact Pair.below ‹_› hb1 | exact (hb9.cell (by first | omega | (simp; omega) | (simp; done))).trans ‹_› | exact (hb8.cell (by first | omega | (simp; omega) | (simp; done))).trans ‹_› | exact (hb7.cell (by first | omega | (simp; omega) | (simp; done))).trans ‹_› | exact (hb6.cell (by first | omega | (simp; omega) | (simp; done))).trans ‹_› | exact (hb5.cell (by first | omega | (simp; omega) | (simp; done))).trans ‹_› | exact (hb4.cell (by first | omega | (simp; omega) | (simp; done))).trans ‹_› | exact (hb3.cell (by first | omega | (simp; omega) | (simp; done))).trans ‹_› | exact (hb2.cell (by first | omega | (simp; omega) | (simp; done))).trans ‹_› | exact (hb1.cell (by first | omega | (simp; omega) | (simp; done))).trans ‹_› | exact Pair.set1 (Pair.set0 ‹_› _) _ _ _ | exact (cell_stored _ (by first | (dsimp only; omega) | (simp; done) | (simp; omega)) _ _).trans ‹_› | exact Pair.drew (Pair.below ‹_› (below1 _ _)) | exact Pair.below ‹_› (below1 _ _) | exact Pair.far ‹_› (by omega) hb1 | exact Pair.new .. | exact Pair.new1 .. | exact Pair.new2 .. | (go_keep; done)) | (go_keep; done))
    (first
      | (go_at_call 46; refine (own_any s l _ ?_ hl).mono ?_; (repeat (first | exact ha | apply At.drew | apply At.alloc)); rintro e w1 ⟨v1, rfl, ho1, hb1⟩; have hz1 : w.heap.size + 2 ≤ w1.heap.size := (by have := hb1.size; simp at this; omega))
      | (go_at_call 45; refine (told_any (!neg) _ _ _ (by rw [← Hs.out]; exact ho1.at)).mono ?_; rintro e w2 ⟨v2, rfl, hi2, hb2⟩; obtain ⟨p2, n2, c2, rfl, hi2⟩ := hi2.shape; have hpr := Pair.below (by go_split_ands; assumption) hb2; obtain ⟨_, _, q0, q1, q2, q3⟩ := hpr.cells))
  go_wp2
  exact bodyPost_ret (v := .agg #[.bool (decide (sg (!neg) (val W l) < 0)), .slice p2 n2 c2]) (by simp [results, Try.results25, go_sem, q0, q1]) rfl
    ⟨_, rfl, by rw [Hz.out]; exact hi2.stored hpr _ _ _ _, Below.stored ((((below1 _ _).alloc (by simp) _).drew.trans (hb1.mono (B' := w.heap.size) (by simp; omega))).trans (hb2.mono (B' := w.heap.size) (by omega))) (by omega) _ _⟩

theorem sign_sg (neg : Bool) (n : Nat) : (sg neg n).sign = if n = 0 then 0 else if neg then -1 else 1 := by
  unfold sg
  by_cases h : n = 0
  · subst h; cases neg <;> simp
  · rw [if_neg h]
    cases neg
    · simp only [Bool.false_eq_true, if_false]; exact Int.sign_eq_one_of_pos (by omega)
    · simp only [if_true]; exact Int.sign_eq_neg_one_of_neg (by omega)

set_option maxHeartbeats 800000 in
theorem Sign_any (v : Value) (z : Int) (w : World) (h : RawAt w v z) : Calls Try.prog 32 #[v] w (fun e w' => e = .returned (.int .i64 z.sign) ∧ Below w.heap.size w w') := by
  obtain ⟨neg, s, l, rfl, ha, hs, hl, rfl⟩ := h
  have Hs := hid (strip_dig W2 hs)
  have Hz := hid (sign_sg neg (val W l))
  have ht : ∀ o, Calls Try.prog 41 #[s] (w.alloc o) (fun e w' => e = .returned (cutTo s (strip l).length) ∧ w' = w.alloc o) := fun o => trim_val s l _ (ha.alloc o)
  have Ht := hid ht; clear ht
  obtain ⟨p, c, rfl, -⟩ := ha
  obtain ⟨n, hn⟩ : ∃ n, n = val W l := ⟨_, rfl⟩
  obtain ⟨m, hm⟩ : ∃ m, m = (strip l).length := ⟨_, rfl⟩
  have hmn : m = 0 ↔ n = 0 := by rw [hm, Hs.out, ← hn]; exact sz_eq_zero W2
  rw [← hn] at Hz ⊢
  rw [← hm] at Ht
  clear hm hn
  obtain ⟨z, hz⟩ : ∃ z, z = (sg neg n).sign := ⟨_, rfl⟩
  rw [← hz] at Hz ⊢
  clear hz
  by_cases h0 : m = 0
  · have hz : z = 0 := by rw [Hz.out, if_pos (hmn.1 h0)]
    subst hz
    subst h0
    go_enter Try.func32, Try.ntmps32
    go_wp2_with (go_at_call 41; refine (Ht.out _).mono ?_; rintro e w' ⟨rfl, rfl⟩; simp only [cutTo])
    go_ret
    exact ⟨rfl, below1 _ _⟩
  · have hz : z = if neg then -1 else 1 := by rw [Hz.out, if_neg (fun e => h0 (hmn.2 e))]
    have hb : ((m : Int) == 0) = false := beq_eq_false_iff_ne.2 (by omega)
    cases neg
    · simp only [Bool.false_eq_true, if_false] at hz
      subst hz
      go_enter Try.func32, Try.ntmps32
      go_wp2_with (go_at_call 41; refine (Ht.out _).mono ?_; rintro e w' ⟨rfl, rfl⟩; simp only [cutTo])
      go_ret
      exact ⟨rfl, below1 _ _⟩
    · simp only [if_true] at hz
      subst hz
      go_enter Try.func32, Try.ntmps32
      go_wp2_with (go_at_call 41; refine (Ht.out _).mono ?_; rintro e w' ⟨rfl, rfl⟩; simp only [cutTo])
      go_ret
      exact ⟨rfl, below1 _ _⟩

end Go.Proofs.Ytlijekppbpefaaa
/- whole.Cmp. -/
namespace Go.Proofs.Ytlijekppbpefaaa
open Go.RowKit Big

theorem ord_signs {a b : Int} (h : a.sign ≠ b.sign) : ord a.sign b.sign = ord a b := by
  rcases Int.lt_trichotomy a 0 with h1 | h1 | h1 <;> rcases Int.lt_trichotomy b 0 with h2 | h2 | h2
  all_goals (try subst h1); (try subst h2)
  all_goals (try simp only [Int.sign_eq_neg_one_of_neg, Int.sign_eq_one_of_pos, Int.sign_zero, *] at h ⊢)
  all_goals first | exact absurd rfl h | (unfold ord; (repeat' split) <;> omega)
theorem ord_sizes {a b : Int} (h : a.sign = b.sign) : a.sign * ord a.natAbs b.natAbs = ord a b := by
  rcases Int.lt_trichotomy a 0 with h1 | h1 | h1 <;> rcases Int.lt_trichotomy b 0 with h2 | h2 | h2
  all_goals (try subst h1); (try subst h2)
  all_goals (try simp only [Int.sign_eq_neg_one_of_neg, Int.sign_eq_one_of_pos, Int.sign_zero, *] at h ⊢)
  all_goals first | (exfalso; revert h; decide) | (unfold ord; (repeat' split) <;> omega)
theorem sign_bounds (a : Int) : -1 ≤ a.sign ∧ a.sign ≤ 1 := by
  rcases Int.lt_trichotomy a 0 with h | h | h
  · rw [Int.sign_eq_neg_one_of_neg h]; omega
  · subst h; simp
  · rw [Int.sign_eq_one_of_pos h]; omega
theorem ord_bounds (a b : Int) : -1 ≤ ord a b ∧ ord a b ≤ 1 := by unfold ord; (repeat' split) <;> omega
theorem quiet_add {P : Program} {f : FuncId} {args : Array Value} {w : World} {n : Nat} {v : Value}
    (h : Calls P f args (w.drewN n) fun e w' => e = .returned v ∧ ∃ m, w' = (w.drewN n).drewN m) :
    Calls P f args (w.drewN n) fun e w'' => e = .returned v ∧ ∃ m, w'' = w.drewN m :=
  h.mono fun _ _ ⟨he, m, hm⟩ => ⟨he, n + m, by rw [hm, World.drewN_drewN]⟩

set_option maxHeartbeats 1600000 in
theorem Cmp_any (v0 v1 : Value) (a b : Int) (w : World) (h0 : RawAt w v0 a) (h1 : RawAt w v1 b) : Calls Try.prog 33 #[v0, v1] w (RNum .i64 (ord a b) w) := by
  have hne := @ord_signs a b
  have heq := @ord_sizes a b
  have ba := sign_bounds a
  have bb := sign_bounds b
  have g0 : ∀ W, RawAt W v0 a → Calls Try.prog 32 #[v0] W (fun e w' => e = .returned (.int .i64 a.sign) ∧ Below W.heap.size W w') := fun W h => Sign_any v0 a W h
  have g1 : ∀ W, RawAt W v1 b → Calls Try.prog 32 #[v1] W (fun e w' => e = .returned (.int .i64 b.sign) ∧ Below W.heap.size W w') := fun W h => Sign_any v1 b W h
  have Hne := hid hne; have Heq := hid heq; have G0 := hid g0; have G1 := hid g1
  clear hne heq g0 g1
  obtain ⟨r, hr⟩ : ∃ r, r = ord a b := ⟨_, rfl⟩
  obtain ⟨n0, s0, l0, rfl, a0, b0, c0, ha⟩ := id h0
  obtain ⟨n1, s1, l1, rfl, a1, b1, c1, hb⟩ := id h1
  have na : a.natAbs = val W l0 := by rw [ha, sg_natAbs]
  have nb : b.natAbs = val W l1 := by rw [hb, sg_natAbs]
  rw [← hr] at Hne Heq ⊢
  rw [na, nb] at Heq
  clear hr ha hb na nb
  generalize a.sign = x at *
  generalize b.sign = y at *
  have d0 := hid (strip_dig W2 b0)
  have d1 := hid (strip_dig W2 b1)
  obtain ⟨ba1, ba2⟩ := ba
  obtain ⟨bb1, bb2⟩ := bb
  go_enter Try.func33, Try.ntmps33
  go_wp2_with fail
  refine (G0.out _ (h0.below ((below1 _ _).alloc (by simp) _))).mono ?_
  rintro e w1 ⟨rfl, hb1⟩
  have W1 := (Two.new w _ _ _ _ _).below hb1
  obtain ⟨c00, c01, c10, c11, z1⟩ := id W1
  have bw : Below w.heap.size w w1 := ((below1 _ _).alloc (by simp) _).trans (hb1.mono (B' := w.heap.size) (by simp; omega))
  go_wp2_with fail
  refine (G1.out _ (h1.below bw)).mono ?_
  rintro e w2 ⟨rfl, hb2⟩
  obtain ⟨e00, e01, e10, e11, z2⟩ := W1.below hb2
  have bw2 : Below w.heap.size w w2 := bw.trans (hb2.mono (B' := w.heap.size) (by omega))
  clear c00 c01 c10 c11 hb1 bw hb2 z1 z2 G0 G1 W1
  have t0 : ∀ n, Calls Try.prog 41 #[s0] (w2.drewN n) (fun e w' => e = .returned (cutTo s0 (strip l0).length) ∧ w' = w2.drewN n) := fun n => trim_val s0 l0 _ ((a0.below bw2).drewN n)
  have t1 : ∀ n, Calls Try.prog 41 #[s1] (w2.drewN n) (fun e w' => e = .returned (cutTo s1 (strip l1).length) ∧ w' = w2.drewN n) := fun n => trim_val s1 l1 _ ((a1.below bw2).drewN n)
  have t2 : ∀ n, Calls Try.prog 53 #[cutTo s0 (strip l0).length, cutTo s1 (strip l1).length] (w2.drewN n) (ROrd (ord (val W l0) (val W l1)) (w2.drewN n)) := fun n =>
    compare_any _ _ _ _ _ (by have := ((a0.below bw2).drewN n).strip; rwa [d0.out] at this ⊢) (by have := ((a1.below bw2).drewN n).strip; rwa [d1.out] at this ⊢)
  have ob := ord_bounds (val W l0) (val W l1)
  have T0 := hid t0; have T1 := hid t1; have T2 := hid t2
  clear t0 t1 t2
  obtain ⟨o, ho⟩ : ∃ o, o = ord (val W l0) (val W l1) := ⟨_, rfl⟩
  rw [← ho] at Heq T2 ob
  clear ho
  obtain ⟨ob1, ob2⟩ := ob
  by_cases hxy : x = y
  · subst hxy
    have Hr : Hid (x * o = r) := Heq.out rfl
    clear Hne Heq
    rcases (by omega : x = -1 ∨ x = 0 ∨ x = 1) with rfl | rfl | rfl
    all_goals
      go_wp2_with fail
      go_quiet ((first
        | (go_at_call_of 41 (s0); exact Calls.quiet_of_same (T0.out _))
        | (go_at_call_of 41 (s1); exact Calls.quiet_of_same (T1.out _))
        | (go_at_call 53; exact quiet_add (T2.out _))))
      go_wp2
      go_ret
      exact ⟨by rw [← Hr.out]; simp, below_drewN bw2 _⟩
  · have hb : (x != y) = true := bne_iff_ne.2 hxy
    have Hr : Hid (ord x y = r) := Hne.out hxy
    go_wp2_with (go_at_call 52; refine (cmpInt_any _ _ _).mono ?_; rintro e w' ⟨rfl, rfl⟩)
    go_ret
    exact ⟨by rw [← Hr.out]; rfl, bw2⟩
end Go.Proofs.Ytlijekppbpefaaa
/- whole.Add, Sub. -/
namespace Go.Proofs.Ytlijekppbpefaaa
open Go.RowKit Big

theorem sg_add_same (n : Bool) (x y : Nat) : sg n (x + y) = sg n x + sg n y := by unfold sg; cases n <;> simp <;> omega
theorem sg_add_lt {n m : Bool} {x y : Nat} (h : n ≠ m) (hxy : x < y) : sg m (y - x) = sg n x + sg m y := by unfold sg; cases n <;> cases m <;> simp at h ⊢ <;> omega
theorem sg_add_ge {n m : Bool} {x y : Nat} (h : n ≠ m) (hxy : ¬ x < y) : sg n (x - y) = sg n x + sg m y := by unfold sg; cases n <;> cases m <;> simp at h ⊢ <;> omega

set_option maxHeartbeats 1600000 in
theorem Add_any (v0 v1 : Value) (a b : Int) (w : World) (h0 : RawAt w v0 a) (h1 : RawAt w v1 b) : Calls Try.prog 36 #[v0, v1] w (RInt (a + b) w) := by
  obtain ⟨n0, s0, l0, rfl, a0, b0, c0, rfl⟩ := h0
  obtain ⟨n1, s1, l1, rfl, a1, b1, c1, rfl⟩ := h1
  have t0 : ∀ W : World, At W .u64 s0 l0 → Calls Try.prog 41 #[s0] W (fun e w' => e = .returned (cutTo s0 (strip l0).length) ∧ w' = W) := fun W h => trim_val s0 l0 W h
  have t1 : ∀ W : World, At W .u64 s1 l1 → Calls Try.prog 41 #[s1] W (fun e w' => e = .returned (cutTo s1 (strip l1).length) ∧ w' = W) := fun W h => trim_val s1 l1 W h
  have T0 := hid t0; have T1 := hid t1; clear t0 t1
  have d0 := hid (strip_dig W2 b0)
  have d1 := hid (strip_dig W2 b1)
  have m0 : sz W (val W l0) ≤ 1099511627776 := Nat.le_trans (sz_val W2 b0) c0
  have m1 : sz W (val W l1) ≤ 1099511627776 := Nat.le_trans (sz_val W2 b1) c1
  obtain ⟨r, hr⟩ : ∃ r, r = sg n0 (val W l0) + sg n1 (val W l1) := ⟨_, rfl⟩
  rw [← hr]
  have Hr := hid hr; clear hr
  go_enter Try.func36, Try.ntmps36
  go_wp2_with fail
  go_quiet ((first
    | (go_at_call_of 41 (s0); exact Calls.quiet_of_same (T0.out _ (by repeat (first | exact a0 | apply At.drewN | apply At.drew | apply At.alloc))))
    | (go_at_call_of 41 (s1); exact Calls.quiet_of_same (T1.out _ (by repeat (first | exact a1 | apply At.drewN | apply At.drew | apply At.alloc))))))
  generalize hW : World.drewN (World.alloc (World.alloc (World.alloc w _) _) _) _ = W3
  have bw : Below w.heap.size w W3 := by rw [← hW]; exact below_drewN (((below1 _ _).alloc (by simp) _).alloc (by simp; omega) _) _
  have hp : Pair W3 (w.heap.size + 1 + 1) 25 := by rw [← hW]; exact Pair.new2 ..
  obtain ⟨c00, c01, c10, c11, -⟩ : Two W3 w.heap.size (.bool n0) s0 (.bool n1) s1 := by rw [← hW]; exact (Two.new w _ _ _ _ _).below (below_drewN (below1 _ _) _)
  have z3 : w.heap.size + 3 ≤ W3.heap.size := by rw [← hW]; simp
  have A0 : At W3 .u64 (cutTo s0 (strip l0).length) (dig W (val W l0)) := by have := (a0.below bw).strip; rwa [d0.out] at this ⊢
  have A1 : At W3 .u64 (cutTo s1 (strip l1).length) (dig W (val W l1)) := by have := (a1.below bw).strip; rwa [d1.out] at this ⊢
  have bw' := hid bw
  clear hW bw c01 c11 T0 T1 a0 a1
  generalize cutTo s0 (strip l0).length = u0 at *
  generalize cutTo s1 (strip l1).length = u1 at *
  generalize val W l0 = x at *
  generalize val W l1 = y at *
  clear d0 d1 b0 b1 c0 c1
  by_cases hn : n0 = n1
  · subst hn
    have Hs : Hid (sg n0 (x + y) = r) := by unfold Hid; rw [sg_add_same, Hr.out]
    go_wp2
    go_region_held3 (fun w' => w'.cell? ⟨w.heap.size, 0, none⟩ = some (.bool n0) ∧ Pair w' (w.heap.size + 1 + 1) 25)
      (first | (go_split_ands; (try dsimp only); (repeat' apply And.intro) <;> first | assumption | exact Pair.drew ‹_› | exact Pair.below ‹_› hb9 | exact Pair.below ‹_› hb8 | exact Pair.below ‹_› hb7 | exact Pair.below ‹_› hb6 | exact Pair.below ‹_› hb5 | exact Pair.below ‹_› hb4 | exact Pair.below ‹_› hb3 | exact Pair.below ‹_› hb2 | exact Pair.below ‹_› hb1 | exact (hb9.cell (by first | omega | (simp; omega) | (simp; done))).trans ‹_› | exact (hb8.cell (by first | omega | (simp; omega) | (simp; done))).trans ‹_› | exact (hb7.cell (by first | omega | (simp; omega) | (simp; done))).trans ‹_› | exact (hb6.cell (by first | omega | (simp; omega) | (simp; done))).trans ‹_› | exact (hb5.cell (by first | omega | (simp; omega) | (simp; done))).trans ‹_› | exact (hb4.cell (by first | omega | (simp; omega) | (simp; done))).trans ‹_› | exact (hb3.cell (by first | omega | (simp; omega) | (simp; done))).trans ‹_› | exact (hb2.cell (by first | omega | (simp; omega) | (simp; done))).trans ‹_› | exact (hb1.cell (by first | omega | (simp; omega) | (simp; done))).trans ‹_› | exact Pair.set1 (Pair.set0 ‹_› _) _ _ _ | exact (cell_stored _ (by first | (dsimp only; omega) | (simp; done) | (simp; omega)) _ _).trans ‹_› | exact Pair.drew (Pair.below ‹_› (below1 _ _)) | exact Pair.below ‹_› (below1 _ _) | exact Pair.far ‹_› (by omega) hb1 | exact Pair.new .. | exact Pair.new1 .. | exact Pair.new2 .. | (go_keep; done)) | (go_keep; done))
      (first
        | (go_at_call 43; refine (plus_any u0 u1 x y _ (by exact A0) (by exact A1) m0 m1).mono ?_; rintro e w1 ⟨v1, rfl, ho1, hb1⟩; have hz1 : w.heap.size + 3 ≤ w1.heap.size := (by have := hb1.size; simp at this; omega))
        | (go_at_call 45; refine (told_any n0 _ _ _ ho1.at).mono ?_; rintro e w2 ⟨v2, rfl, hi2, hb2⟩; obtain ⟨p2, n2, c2, rfl, hi2⟩ := hi2.shape; have hpr := Pair.below (by go_split_ands; assumption) hb2; obtain ⟨_, _, q0, q1, q2, q3⟩ := hpr.cells))
    go_wp2
    exact bodyPost_ret (v := .agg #[.bool (decide (sg n0 (x + y) < 0)), .slice p2 n2 c2]) (by simp [results, Try.results36, go_sem, q0, q1]) rfl
      ⟨_, rfl, by rw [← Hs.out]; exact hi2.stored hpr _ _ _ _, Below.stored ((bw'.out.drew.trans (hb1.mono (B' := w.heap.size) (by simp; omega))).trans (hb2.mono (B' := w.heap.size) (by omega))) (by omega) _ _⟩
  · have hb : (n0 == n1) = false := beq_eq_false_iff_ne.2 hn
    by_cases hxy : x < y
    · have Hs : Hid (sg n1 (y - x) = r) := by unfold Hid; rw [sg_add_lt hn hxy, Hr.out]
      have ho : ord (x : Int) y = -1 := ord_lt (by omega)
      have Hc := hid (compare_any u0 u1 x y W3 A0 A1)
      rw [ho] at Hc
      clear ho
      go_wp2_with (go_at_call 53; refine Hc.out.mono ?_; rintro e w' ⟨rfl, k, rfl⟩)
      go_region_held3 (fun w' => w'.cell? ⟨w.heap.size + 1, 0, none⟩ = some (.bool n1) ∧ Pair w' (w.heap.size + 1 + 1) 25)
        (first | (go_split_ands; (try dsimp only); (repeat' apply And.intro) <;> first | assumption | exact Pair.drew ‹_› | exact Pair.below ‹_› hb9 | exact Pair.below ‹_› hb8 | exact Pair.below ‹_› hb7 | exact Pair.below ‹_› hb6 | exact Pair.below ‹_› hb5 | exact Pair.below ‹_› hb4 | exact Pair.below ‹_› hb3 | exact Pair.below ‹_› hb2 | exact Pair.below ‹_› hb1 | exact (hb9.cell (by first | omega | (simp; omega) | (simp; done))).trans ‹_› | exact (hb8.cell (by first | omega | (simp; omega) | (simp; done))).trans ‹_› | exact (hb7.cell (by first | omega | (simp; omega) | (simp; done))).trans ‹_› | exact (hb6.cell (by first | omega | (simp; omega) | (simp; done))).trans ‹_› | exact (hb5.cell (by first | omega | (simp; omega) | (simp; done))).trans ‹_› | exact (hb4.cell (by first | omega | (simp; omega) | (simp; done))).trans ‹_› | exact (hb3.cell (by first | omega | (simp; omega) | (simp; done))).trans ‹_› | exact (hb2.cell (by first | omega | (simp; omega) | (simp; done))).trans ‹_› | exact (hb1.cell (by first | omega | (simp; omega) | (simp; done))).trans ‹_› | exact Pair.set1 (Pair.set0 ‹_› _) _ _ _ | exact (cell_stored _ (by first | (dsimp only; omega) | (simp; done) | (simp; omega)) _ _).trans ‹_› | exact Pair.drew (Pair.below ‹_› (below1 _ _)) | exact Pair.below ‹_› (below1 _ _) | exact Pair.far ‹_› (by omega) hb1 | exact Pair.new .. | exact Pair.new1 .. | exact Pair.new2 .. | (go_keep; done)) | (go_keep; done))
        (first
          | (go_at_call 44; refine (minus_any u1 u0 y x _ (by exact A1) (by exact A0) (by omega) m1).mono ?_; rintro e w1 ⟨v1, rfl, ho1, hb1⟩; have hz1 : w.heap.size + 3 ≤ w1.heap.size := (by have := hb1.size; simp at this; omega))
          | (go_at_call 45; refine (told_any n1 _ _ _ ho1).mono ?_; rintro e w2 ⟨v2, rfl, hi2, hb2⟩; obtain ⟨p2, n2, c2, rfl, hi2⟩ := hi2.shape; have hpr := Pair.below (by go_split_ands; assumption) hb2; obtain ⟨_, _, q0, q1, q2, q3⟩ := hpr.cells))
      go_wp2
      exact bodyPost_ret (v := .agg #[.bool (decide (sg n1 (y - x) < 0)), .slice p2 n2 c2]) (by simp [results, Try.results36, go_sem, q0, q1]) rfl
        ⟨_, rfl, by rw [← Hs.out]; exact hi2.stored hpr _ _ _ _, Below.stored (((below_drewN bw'.out k).drew.trans (hb1.mono (B' := w.heap.size) (by simp; omega))).trans (hb2.mono (B' := w.heap.size) (by omega))) (by omega) _ _⟩
    · have Hs : Hid (sg n0 (x - y) = r) := by unfold Hid; rw [sg_add_ge hn hxy, Hr.out]
      have ho : ∃ o, o = ord (x : Int) y ∧ ¬ o < 0 := ⟨_, rfl, by unfold ord; (repeat' split) <;> omega⟩
      obtain ⟨o, ho, hneg⟩ := ho
      have Hc := hid (compare_any u0 u1 x y W3 A0 A1)
      rw [← ho] at Hc
      clear ho
      go_wp2_with (go_at_call 53; refine Hc.out.mono ?_; rintro e w' ⟨rfl, k, rfl⟩)
      go_region_held3 (fun w' => w'.cell? ⟨w.heap.size, 0, none⟩ = some (.bool n0) ∧ Pair w' (w.heap.size + 1 + 1) 25)
        (first | (go_split_ands; (try dsimp only); (repeat' apply And.intro) <;> first | assumption | exact Pair.drew ‹_› | exact Pair.below ‹_› hb9 | exact Pair.below ‹_› hb8 | exact Pair.below ‹_› hb7 | exact Pair.below ‹_› hb6 | exact Pair.below ‹_› hb5 | exact Pair.below ‹_› hb4 | exact Pair.below ‹_› hb3 | exact Pair.below ‹_› hb2 | exact Pair.below ‹_› hb1 | exact (hb9.cell (by first | omega | (simp; omega) | (simp; done))).trans ‹_› | exact (hb8.cell (by first | omega | (simp; omega) | (simp; done))).trans ‹_› | exact (hb7.cell (by first | omega | (simp; omega) | (simp; done))).trans ‹_› | exact (hb6.cell (by first | omega | (simp; omega) | (simp; done))).trans ‹_› | exact (hb5.cell (by first | omega | (simp; omega) | (simp; done))).trans ‹_› | exact (hb4.cell (by first | omega | (simp; omega) | (simp; done))).trans ‹_› | exact (hb3.cell (by first | omega | (simp; omega) | (simp; done))).trans ‹_› | exact (hb2.cell (by first | omega | (simp; omega) | (simp; done))).trans ‹_› | exact (hb1.cell (by first | omega | (simp; omega) | (simp; done))).trans ‹_› | exact Pair.set1 (Pair.set0 ‹_› _) _ _ _ | exact (cell_stored _ (by first | (dsimp only; omega) | (simp; done) | (simp; omega)) _ _).trans ‹_› | exact Pair.drew (Pair.below ‹_› (below1 _ _)) | exact Pair.below ‹_› (below1 _ _) | exact Pair.far ‹_› (by omega) hb1 | exact Pair.new .. | exact Pair.new1 .. | exact Pair.new2 .. | (go_keep; done)) | (go_keep; done))
        (first
          | (go_at_call 44; refine (minus_any u0 u1 x y _ (by exact A0) (by exact A1) (by omega) m0).mono ?_; rintro e w1 ⟨v1, rfl, ho1, hb1⟩; have hz1 : w.heap.size + 3 ≤ w1.heap.size := (by have := hb1.size; simp at this; omega))
          | (go_at_call 45; refine (told_any n0 _ _ _ ho1).mono ?_; rintro e w2 ⟨v2, rfl, hi2, hb2⟩; obtain ⟨p2, n2, c2, rfl, hi2⟩ := hi2.shape; have hpr := Pair.below (by go_split_ands; assumption) hb2; obtain ⟨_, _, q0, q1, q2, q3⟩ := hpr.cells))
      go_wp2
      exact bodyPost_ret (v := .agg #[.bool (decide (sg n0 (x - y) < 0)), .slice p2 n2 c2]) (by simp [results, Try.results36, go_sem, q0, q1]) rfl
        ⟨_, rfl, by rw [← Hs.out]; exact hi2.stored hpr _ _ _ _, Below.stored (((below_drewN bw'.out k).drew.trans (hb1.mono (B' := w.heap.size) (by simp; omega))).trans (hb2.mono (B' := w.heap.size) (by omega))) (by omega) _ _⟩
end Go.Proofs.Ytlijekppbpefaaa
/- whole.Sub, Of. -/
namespace Go.Proofs.Ytlijekppbpefaaa
open Go.RowKit Big

theorem wrap_neg_neg (n : Nat) (h0 : 0 < n) (h : n < W) : IntKind.u64.wrap (-IntKind.u64.wrap (-(n : Int))) = (n : Int) := by
  unfold W at h
  simp only [IntKind.wrap, IntKind.bits, IntKind.signed]
  simp
  omega

set_option maxHeartbeats 800000 in
theorem Of_any (z : Int) (w : World) (h0 : -9223372036854775808 ≤ z) (h1 : z ≤ 9223372036854775807) : Calls Try.prog 40 #[.int .i64 z] w (RInt z w) := by
  by_cases hz : z < 0
  · obtain ⟨n, hn⟩ : ∃ n : Nat, z = -(n : Int) := ⟨z.natAbs, by omega⟩
    have Hn := hid hn
    have hnW : n < W := by unfold W; omega
    have Hz : Hid (sg true n = z) := by rw [hn]; rfl
    have hn0 : 0 < n := by omega
    clear hn
    subst_vars
    go_enter Try.func40, Try.ntmps40
    go_wp2_with fail
    rw [wrap_neg_neg n hn0 hnW]
    refine (ownWord_any n _ hnW).mono ?_
    rintro e w1 ⟨v1, rfl, ho1, hb1⟩
    go_wp2_with fail
    refine (told_any true v1 n _ ho1).mono ?_
    rintro e w2 ⟨v2, rfl, hi2, hb2⟩
    obtain ⟨p2, n2, c2, rfl, hi2⟩ := hi2.shape
    have hpr : Pair w2 w.heap.size 25 := Pair.below (Pair.below (Pair.new ..) hb1) hb2
    obtain ⟨_, _, q0, q1, q2, q3⟩ := hpr.cells
    have z1 : w.heap.size + 1 ≤ w1.heap.size := by have := hb1.size; simp at this; omega
    have bw : Below w.heap.size w w2 := ((below1 _ _).trans (hb1.mono (B' := w.heap.size) (by simp))).trans (hb2.mono (B' := w.heap.size) (by omega))
    have Hi := hid hi2
    clear hb1 hb2 hi2
    go_wp2
    exact bodyPost_ret (v := .agg #[.bool (decide (sg true n < 0)), .slice p2 n2 c2]) (by simp [results, Try.results40, go_sem, q0, q1]) rfl
      ⟨_, rfl, by rw [← Hz.out]; exact Hi.out.stored hpr _ _ _ _, Below.stored bw (by omega) _ _⟩
  · obtain ⟨n, hn⟩ : ∃ n : Nat, z = (n : Int) := ⟨z.natAbs, by omega⟩
    subst hn
    have hnW : n < W := by unfold W; omega
    go_enter Try.func40, Try.ntmps40
    go_wp2_with fail
    refine (ownWord_any n _ hnW).mono ?_
    rintro e w1 ⟨v1, rfl, ho1, hb1⟩
    go_wp2_with fail
    refine (told_any false v1 n _ ho1).mono ?_
    rintro e w2 ⟨v2, rfl, hi2, hb2⟩
    obtain ⟨p2, n2, c2, rfl, hi2⟩ := hi2.shape
    have hpr : Pair w2 w.heap.size 25 := Pair.below (Pair.below (Pair.new ..) hb1) hb2
    obtain ⟨_, _, q0, q1, q2, q3⟩ := hpr.cells
    have z1 : w.heap.size + 1 ≤ w1.heap.size := by have := hb1.size; simp at this; omega
    have bw : Below w.heap.size w w2 := ((below1 _ _).trans (hb1.mono (B' := w.heap.size) (by simp))).trans (hb2.mono (B' := w.heap.size) (by omega))
    have Hi := hid hi2
    clear hb1 hb2 hi2
    go_wp2
    exact bodyPost_ret (v := .agg #[.bool (decide (sg false n < 0)), .slice p2 n2 c2]) (by simp [results, Try.results40, go_sem, q0, q1]) rfl
      ⟨_, rfl, Hi.out.stored hpr _ _ _ _, Below.stored bw (by omega) _ _⟩
end Go.Proofs.Ytlijekppbpefaaa
