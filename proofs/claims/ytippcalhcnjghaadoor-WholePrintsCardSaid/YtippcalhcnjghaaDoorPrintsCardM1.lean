/- Texts put together: Big, Mem, Trim, RefTrim, Own, Mem2, Digits, RefPlus, HalfTrim, Split, DivShort, Join, TimesPlus. -/
import Derived.Test.YtippcalhcnjghaaDoorProg
import Derived.WalkKit
import Derived.WalkSpells
import Derived.Deep.QuietTactic
import Derived.BigQuiet
import Derived.WalkSmall
import Derived.Laws.AppendOwnNone
import Derived.Laws.BitsAll
/- Plain mathematics of digit lists: the value of a list of digits, its canonical form, and how sums, differences, products and quotients of digits carry. No program is named here. -/
namespace Go.Proofs.YtippcalhcnjghaaDoor.Big

/-- the value of digits, the lowest first -/
def val (B : Nat) : List Nat → Nat
  | [] => 0
  | x :: xs => x + B * val B xs

/-- all digits are below the base -/
def Small (B : Nat) (l : List Nat) : Prop := ∀ x ∈ l, x < B

/-- the digits of a number, with fuel -/
def dg (B : Nat) : Nat → Nat → List Nat
  | 0, _ => []
  | f + 1, n => if n = 0 then [] else (n % B) :: dg B f (n / B)
/-- the digits of a number, none of them above the highest that isn't 0 -/
def dig (B n : Nat) : List Nat := dg B n n
/-- how many digits -/
def sz (B n : Nat) : Nat := (dig B n).length

theorem val_nil (B : Nat) : val B [] = 0 := rfl
theorem val_cons (B x : Nat) (l : List Nat) : val B (x :: l) = x + B * val B l := rfl
theorem val_append (B : Nat) (l m : List Nat) : val B (l ++ m) = val B l + B ^ l.length * val B m := by
  induction l with
  | nil => simp [val]
  | cons x l ih => simp only [List.cons_append, val, ih, List.length_cons, Nat.pow_succ]; grind
theorem val_snoc (B : Nat) (l : List Nat) (x : Nat) : val B (l ++ [x]) = val B l + B ^ l.length * x := by
  rw [val_append]; simp [val]
theorem small_nil (B : Nat) : Small B [] := by intro x hx; cases hx
theorem small_cons {B x : Nat} {l : List Nat} (h : x < B) (hl : Small B l) : Small B (x :: l) := by
  intro y hy; cases hy with
  | head => exact h
  | tail _ hy => exact hl y hy
theorem small_append {B : Nat} {l m : List Nat} (hl : Small B l) (hm : Small B m) : Small B (l ++ m) := by
  intro y hy; rcases List.mem_append.1 hy with h | h
  · exact hl y h
  · exact hm y h
theorem small_snoc {B : Nat} {l : List Nat} {x : Nat} (hl : Small B l) (h : x < B) : Small B (l ++ [x]) :=
  small_append hl (small_cons h (small_nil B))
theorem small_left {B : Nat} {l m : List Nat} (h : Small B (l ++ m)) : Small B l := fun x hx => h x (List.mem_append_left _ hx)
theorem small_take {B : Nat} {l : List Nat} (h : Small B l) (k : Nat) : Small B (l.take k) := fun x hx => h x (List.mem_of_mem_take hx)
theorem small_drop {B : Nat} {l : List Nat} (h : Small B l) (k : Nat) : Small B (l.drop k) := fun x hx => h x (List.mem_of_mem_drop hx)
theorem small_get {B : Nat} {l : List Nat} (h : Small B l) (i : Nat) (hi : i < l.length) : l[i] < B := h _ (List.getElem_mem hi)
theorem small_getD {B : Nat} {l : List Nat} (h : Small B l) (hB : 0 < B) (i : Nat) : l[i]?.getD 0 < B := by
  cases hx : l[i]? with
  | none => simpa using hB
  | some x => simpa using h x (List.mem_of_getElem? hx)

theorem val_lt {B : Nat} (hB : 0 < B) : ∀ {l : List Nat}, Small B l → val B l < B ^ l.length
  | [], _ => by simp [val]
  | x :: l, h => by
    have h1 : x < B := h x (by simp)
    have h2 := val_lt hB (l := l) fun y hy => h y (by simp [hy])
    simp only [val, List.length_cons, Nat.pow_succ]
    have : B * val B l + B ≤ B ^ l.length * B := by
      rw [Nat.mul_comm (B ^ l.length)]; calc B * val B l + B = B * (val B l + 1) := by grind
        _ ≤ B * B ^ l.length := Nat.mul_le_mul_left _ h2
    omega
theorem val_take_drop (B : Nat) (l : List Nat) (k : Nat) (hk : k ≤ l.length) : val B l = val B (l.take k) + B ^ k * val B (l.drop k) := by
  conv => lhs; rw [← List.take_append_drop k l]
  rw [val_append, List.length_take, Nat.min_eq_left hk]
theorem take_succ' {α : Type} (l : List α) (k : Nat) (h : k < l.length) : l.take (k + 1) = l.take k ++ [l[k]] := by
  rw [List.take_succ_eq_append_getElem h]
theorem val_take_succ (B : Nat) (l : List Nat) (k : Nat) (h : k < l.length) : val B (l.take (k + 1)) = val B (l.take k) + B ^ k * l[k] := by
  rw [take_succ' l k h, val_snoc, List.length_take, Nat.min_eq_left (by omega)]
theorem val_take_ge (B : Nat) (l : List Nat) (k : Nat) (h : l.length ≤ k) : val B (l.take k) = val B l := by rw [List.take_of_length_le h]
/-- one digit more, which may lie beyond the end -/
theorem val_take_getD (B : Nat) (l : List Nat) (k : Nat) : val B (l.take (k + 1)) = val B (l.take k) + B ^ k * l[k]?.getD 0 := by
  by_cases h : k < l.length
  · rw [val_take_succ B l k h]; simp [h]
  · rw [val_take_ge _ _ _ (by omega), val_take_ge _ _ _ (by omega)]; simp [List.getElem?_eq_none (Nat.le_of_not_lt h)]
theorem val_drop_succ (B : Nat) (l : List Nat) (k : Nat) (h : k < l.length) : val B (l.drop k) = l[k] + B * val B (l.drop (k + 1)) := by
  rw [List.drop_eq_getElem_cons h, val_cons]

theorem dg_fuel {B : Nat} (hB : 2 ≤ B) : ∀ (f g n : Nat), n ≤ f → n ≤ g → dg B f n = dg B g n
  | 0, 0, n, _, _ => rfl
  | 0, g + 1, n, h, _ => by have : n = 0 := by omega
                            subst this; simp [dg]
  | f + 1, 0, n, _, h => by have : n = 0 := by omega
                            subst this; simp [dg]
  | f + 1, g + 1, n, h1, h2 => by
    simp only [dg]
    by_cases h : n = 0
    · simp [h]
    · have hd : n / B < n := Nat.div_lt_self (by omega) (by omega)
      simp only [h, if_false]
      rw [dg_fuel hB f g (n / B) (by omega) (by omega)]
theorem dig_zero (B : Nat) : dig B 0 = [] := rfl
theorem dig_pos {B : Nat} (hB : 2 ≤ B) {n : Nat} (h : 0 < n) : dig B n = (n % B) :: dig B (n / B) := by
  have hd : n / B < n := Nat.div_lt_self h (by omega)
  obtain ⟨m, rfl⟩ : ∃ m, n = m + 1 := ⟨n - 1, by omega⟩
  show dg B (m + 1) (m + 1) = _
  simp only [dg]
  rw [if_neg (by omega), dg_fuel hB m ((m + 1) / B) _ (by omega) (Nat.le_refl _)]
  rfl
theorem dig_one {B : Nat} (hB : 2 ≤ B) {n : Nat} (h : 0 < n) (hn : n < B) : dig B n = [n] := by
  rw [dig_pos hB h, Nat.mod_eq_of_lt hn, Nat.div_eq_of_lt hn, dig_zero]
theorem strong {P : Nat → Prop} (h : ∀ n, (∀ m, m < n → P m) → P n) (n : Nat) : P n := Nat.strongRecOn n h
theorem val_dig {B : Nat} (hB : 2 ≤ B) (n : Nat) : val B (dig B n) = n := by
  induction n using strong with
  | h n ih =>
    by_cases h : n = 0
    · subst h; rfl
    · have hd : n / B < n := Nat.div_lt_self (by omega) (by omega)
      rw [dig_pos hB (by omega), val_cons, ih _ hd]
      exact Nat.mod_add_div n B
theorem small_dig {B : Nat} (hB : 2 ≤ B) (n : Nat) : Small B (dig B n) := by
  induction n using strong with
  | h n ih =>
    by_cases h : n = 0
    · subst h; exact small_nil B
    · have hd : n / B < n := Nat.div_lt_self (by omega) (by omega)
      rw [dig_pos hB (by omega)]
      exact small_cons (Nat.mod_lt _ (by omega)) (ih _ hd)
theorem last_dig {B : Nat} (hB : 2 ≤ B) (n : Nat) : (h : dig B n ≠ []) → (dig B n).getLast h ≠ 0 := by
  induction n using strong with
  | h n ih =>
    intro h
    by_cases h0 : n = 0
    · subst h0; exact absurd rfl h
    · have hd : n / B < n := Nat.div_lt_self (by omega) (by omega)
      by_cases h1 : n / B = 0
      · have e : dig B n = [n % B] := by rw [dig_pos hB (by omega), h1]; rfl
        have : n % B ≠ 0 := by
          intro hm
          have := Nat.mod_add_div n B
          rw [hm, h1] at this; omega
        simp only [e, List.getLast_singleton]; exact this
      · have hne : dig B (n / B) ≠ [] := by rw [dig_pos hB (Nat.pos_of_ne_zero h1)]; simp
        have e : dig B n = (n % B) :: dig B (n / B) := dig_pos hB (by omega)
        have := ih _ hd hne
        simp only [e]
        rw [List.getLast_cons hne]; exact this
/-- a list without a nought at its end is its number's digits -/
theorem canon_last {B : Nat} (hB : 2 ≤ B) : ∀ {l : List Nat}, Small B l → (∀ h : l ≠ [], l.getLast h ≠ 0) → l = dig B (val B l)
  | [], _, _ => rfl
  | x :: l, hs, hl => by
    have hx : x < B := hs x (by simp)
    have hs' : Small B l := fun y hy => hs y (by simp [hy])
    have hl' : ∀ h : l ≠ [], l.getLast h ≠ 0 := by
      intro h; have := hl (by simp); rwa [List.getLast_cons h] at this
    have ih := canon_last hB hs' hl'
    have hpos : 0 < val B (x :: l) := by
      rw [val_cons]
      by_cases hln : l = []
      · subst hln; have := hl (by simp); simp at this; omega
      · have : val B l ≠ 0 := by
          intro h0; rw [h0] at ih; exact hln (by rw [ih]; rfl)
        have : 0 < B * val B l := Nat.mul_pos (by omega) (by omega)
        omega
    rw [dig_pos hB hpos, val_cons, Nat.add_mul_mod_self_left, Nat.mod_eq_of_lt hx, Nat.add_mul_div_left _ _ (by omega : 0 < B), Nat.div_eq_of_lt hx, Nat.zero_add, ← ih]
theorem canon {B : Nat} (hB : 2 ≤ B) {l : List Nat} (hs : Small B l) (h : l = [] ∨ B ^ (l.length - 1) ≤ val B l) : l = dig B (val B l) := by
  refine canon_last hB hs fun hne h0 => ?_
  rcases h with h | h
  · exact hne h
  · have e : l = l.dropLast ++ [0] := by rw [← h0]; exact (List.dropLast_concat_getLast hne).symm
    have hlt := val_lt (by omega : 0 < B) (l := l.dropLast) (fun y hy => hs y (List.dropLast_subset l hy))
    have e2 : val B l = val B l.dropLast := by rw [e, val_snoc]; simp
    rw [List.length_dropLast] at hlt
    omega
theorem canon_val {B : Nat} (hB : 2 ≤ B) {l : List Nat} {n : Nat} (hs : Small B l) (hv : val B l = n) (h : l = [] ∨ B ^ (l.length - 1) ≤ n) : l = dig B n := by
  subst hv; exact canon hB hs h
/-- equal values, equal digits -/
theorem dig_inj {B : Nat} (hB : 2 ≤ B) {n m : Nat} (h : dig B n = dig B m) : n = m := by
  rw [← val_dig hB n, ← val_dig hB m, h]
theorem dig_eq_nil {B : Nat} (hB : 2 ≤ B) {n : Nat} : dig B n = [] ↔ n = 0 :=
  ⟨fun h => by by_cases h0 : n = 0; exact h0; rw [dig_pos hB (by omega)] at h; simp at h, fun h => by subst h; rfl⟩

theorem sz_zero (B : Nat) : sz B 0 = 0 := rfl
theorem sz_pos {B : Nat} (hB : 2 ≤ B) {n : Nat} (h : 0 < n) : sz B n = sz B (n / B) + 1 := by unfold sz; rw [dig_pos hB h]; simp
theorem sz_eq_zero {B : Nat} (hB : 2 ≤ B) {n : Nat} : sz B n = 0 ↔ n = 0 := by
  unfold sz; rw [List.length_eq_zero_iff]; exact dig_eq_nil hB
theorem lt_pow_sz {B : Nat} (hB : 2 ≤ B) (n : Nat) : n < B ^ sz B n := by
  have := val_lt (by omega : 0 < B) (small_dig hB n); rwa [val_dig hB] at this
theorem pow_sz_le {B : Nat} (hB : 2 ≤ B) {n : Nat} (h : 0 < n) : B ^ (sz B n - 1) ≤ n := by
  induction n using strong with
  | h n ih =>
    by_cases h1 : n / B = 0
    · rw [sz_pos hB h, h1]; simp [sz_zero]; omega
    · have hd : n / B < n := Nat.div_lt_self (by omega) (by omega)
      have := ih _ hd (Nat.pos_of_ne_zero h1)
      have hsz : sz B (n / B) ≠ 0 := fun e => h1 ((sz_eq_zero hB).1 e)
      rw [sz_pos hB h, Nat.add_sub_cancel, show sz B (n / B) = sz B (n / B) - 1 + 1 by omega, Nat.pow_succ]
      calc B ^ (sz B (n / B) - 1) * B ≤ n / B * B := Nat.mul_le_mul_right _ this
        _ ≤ n := Nat.div_mul_le_self n B
theorem sz_le_of_lt {B : Nat} (hB : 2 ≤ B) {n k : Nat} (h : n < B ^ k) : sz B n ≤ k := by
  by_cases h0 : n = 0
  · subst h0; rw [sz_zero]; omega
  · have h1 := pow_sz_le hB (n := n) (by omega)
    have h2 : B ^ (sz B n - 1) < B ^ k := Nat.lt_of_le_of_lt h1 h
    have := (Nat.pow_lt_pow_iff_right (a := B) (by omega)).1 h2
    omega
theorem sz_mono {B : Nat} (hB : 2 ≤ B) {n m : Nat} (h : n ≤ m) : sz B n ≤ sz B m :=
  sz_le_of_lt hB (Nat.lt_of_le_of_lt h (lt_pow_sz hB m))
theorem sz_val {B : Nat} (hB : 2 ≤ B) {l : List Nat} (hs : Small B l) : sz B (val B l) ≤ l.length :=
  sz_le_of_lt hB (val_lt (by omega) hs)
theorem sz_mul {B : Nat} (hB : 2 ≤ B) (n m : Nat) : sz B (n * m) ≤ sz B n + sz B m := by
  by_cases h0 : m = 0
  · subst h0; rw [Nat.mul_zero, sz_zero]; omega
  refine sz_le_of_lt hB ?_
  rw [Nat.pow_add]
  exact Nat.mul_lt_mul_of_lt_of_le (lt_pow_sz hB n) (Nat.le_of_lt (lt_pow_sz hB m)) (Nat.pos_of_ne_zero (by have := lt_pow_sz hB m; omega))
theorem sz_add {B : Nat} (hB : 2 ≤ B) {n m k : Nat} (hn : sz B n ≤ k) (hm : sz B m ≤ k) : sz B (n + m) ≤ k + 1 := by
  refine sz_le_of_lt hB ?_
  have h1 := Nat.lt_of_lt_of_le (lt_pow_sz hB n) (Nat.pow_le_pow_right (by omega : 0 < B) hn)
  have h2 := Nat.lt_of_lt_of_le (lt_pow_sz hB m) (Nat.pow_le_pow_right (by omega : 0 < B) hm)
  rw [Nat.pow_succ]
  have : B ^ k * 2 ≤ B ^ k * B := Nat.mul_le_mul_left _ hB
  omega

/-- order by size: more digits, a greater number -/
theorem lt_of_sz_lt {B : Nat} (hB : 2 ≤ B) {n m : Nat} (h : sz B n < sz B m) : n < m := by
  rcases Nat.lt_or_ge n m with h1 | h1
  · exact h1
  · exact absurd (sz_mono hB h1) (by omega)
/-- what is greater in the highest digit at which two lists part is greater -/
theorem val_lt_of_part {B : Nat} {l m : List Nat} {i : Nat} (hl : Small B l) (hi : i < l.length) (him : i < m.length)
    (hd : l.drop (i + 1) = m.drop (i + 1)) (h : l[i] < m[i]) : val B l < val B m := by
  have hB : 0 < B := Nat.lt_of_le_of_lt (Nat.zero_le _) (small_get hl i hi)
  rw [val_take_drop B l i (by omega), val_take_drop B m i (by omega), val_drop_succ B l i hi, val_drop_succ B m i him, hd]
  have hlt := val_lt hB (small_take hl i)
  rw [List.length_take, Nat.min_eq_left (by omega)] at hlt
  have : B ^ i * (l[i] + 1) ≤ B ^ i * m[i] := Nat.mul_le_mul_left _ h
  grind

/-- the strokes of a sum -/
theorem add_step {B x y c s c' P v va vb : Nat} (h : x + y + c = s + B * c') (hv : v + c * P = va + vb) : (v + P * s) + c' * (P * B) = (va + P * x) + (vb + P * y) := by grind
/-- the strokes of a difference -/
theorem sub_step {B x y c s c' P v va vb : Nat} (h : x + B * c' = s + y + c) (hv : v + vb = va + c * P) : (v + P * s) + (vb + P * y) = (va + P * x) + c' * (P * B) := by grind

/-- without the noughts at the end -/
def strip : List Nat → List Nat
  | [] => []
  | x :: l => match strip l with
    | [] => if x = 0 then [] else [x]
    | y :: m => x :: y :: m
theorem strip_dig {B : Nat} (hB : 2 ≤ B) : ∀ {l : List Nat}, Small B l → strip l = dig B (val B l)
  | [], _ => rfl
  | x :: l, hs => by
    have hx : x < B := hs x (by simp)
    have ih := strip_dig hB (l := l) fun y hy => hs y (by simp [hy])
    simp only [strip]
    by_cases h0 : val B l = 0
    · rw [ih, h0, dig_zero]
      simp only [val_cons, h0, Nat.mul_zero, Nat.add_zero]
      by_cases hx0 : x = 0
      · subst hx0; rfl
      · simp only [if_neg hx0]; rw [dig_one hB (by omega) hx]
    · have hne : dig B (val B l) ≠ [] := fun e => h0 ((dig_eq_nil hB).1 e)
      have hpos : 0 < val B (x :: l) := by
        rw [val_cons]; have : 0 < B * val B l := Nat.mul_pos (by omega) (by omega)
        omega
      rw [dig_pos hB hpos, val_cons, Nat.add_mul_mod_self_left, Nat.mod_eq_of_lt hx, Nat.add_mul_div_left _ _ (by omega : 0 < B), Nat.div_eq_of_lt hx, Nat.zero_add, ih]
      cases hh : dig B (val B l) with
      | nil => exact absurd hh hne
      | cons y m => rfl
theorem strip_snoc_zero (l : List Nat) : strip (l ++ [0]) = strip l := by
  induction l with
  | nil => rfl
  | cons x l ih => simp only [List.cons_append, strip, ih]
theorem strip_snoc {l : List Nat} {x : Nat} (h : x ≠ 0) : strip (l ++ [x]) = l ++ [x] := by
  induction l with
  | nil => simp [strip, h]
  | cons y l ih =>
    simp only [List.cons_append, strip, ih]
    cases l <;> rfl
/-- what trim takes off, one at a time -/
theorem strip_take {l : List Nat} {k : Nat} (hk : k < l.length) (h : l[k] = 0) : strip (l.take (k + 1)) = strip (l.take k) := by
  rw [take_succ' l k hk, h, strip_snoc_zero]
theorem strip_take_ne {l : List Nat} {k : Nat} (hk : k < l.length) (h : l[k] ≠ 0) : strip (l.take (k + 1)) = l.take (k + 1) := by
  rw [take_succ' l k hk, strip_snoc h]
theorem strip_nil : strip [] = [] := rfl
theorem strip_length (l : List Nat) : (strip l).length ≤ l.length := by
  induction l with
  | nil => simp [strip]
  | cons x l ih =>
    simp only [strip]
    cases h : strip l with
    | nil => by_cases hx : x = 0 <;> simp [hx]
    | cons y m => rw [h] at ih; simp at ih ⊢; omega

/-- the two bases of the texts: words of 64 bits, halves of 32, digits of 16 -/
def W : Nat := 18446744073709551616
def H : Nat := 4294967296
def D : Nat := 65536
theorem W2 : 2 ≤ W := by decide
theorem H2 : 2 ≤ H := by decide
theorem D2 : 2 ≤ D := by decide

end Go.Proofs.YtippcalhcnjghaaDoor.Big
/- How a slice of unsigned or signed numbers reads in memory: At w k v l says that the value v is a slice whose elements, of integer kind k, are the numbers l. -/
namespace Go.Proofs.YtippcalhcnjghaaDoor
open Go.RowKit

/-- a fact that the walk does not take for a rule -/
theorem hid {p : Prop} (h : p) : Hid p := h

/-- the slice v holds the numbers l -/
def At (w : World) (k : IntKind) (v : Value) (l : List Nat) : Prop :=
  ∃ p cap, v = .slice p l.length cap ∧ l.length ≤ cap ∧ cap ≤ maxLen ∧ (p = none → cap = 0) ∧
    (0 < l.length → ∃ b off, p = some ⟨b, off, none⟩ ∧ b < w.heap.size ∧ ∀ i (h : i < l.length), w.cell? ⟨b, off + i, none⟩ = some (.int k (l[i]'h : Nat)))

theorem At.nil (w : World) (k : IntKind) : At w k (.slice none 0 0) [] := ⟨none, 0, rfl, by simp, by simp [maxLen], fun _ => rfl, fun h => absurd h (by simp)⟩
theorem At.below {w w' : World} {k : IntKind} {v : Value} {l : List Nat} (h : At w k v l) (hb : Below w.heap.size w w') : At w' k v l := by
  obtain ⟨p, cap, hv, h1, h2, h3, h4⟩ := h
  refine ⟨p, cap, hv, h1, h2, h3, fun hp => ?_⟩
  obtain ⟨b, off, h5, h6, h7⟩ := h4 hp
  exact ⟨b, off, h5, Nat.lt_of_lt_of_le h6 hb.size, fun i hi => (hb.cell (p := ⟨b, off + i, none⟩) h6).trans (h7 i hi)⟩
/-- a cut at the end -/
theorem At.take {w : World} {k : IntKind} {p : Option Addr} {n cap : Nat} {l : List Nat} (h : At w k (.slice p n cap) l) (m : Nat) (hm : m ≤ l.length) : At w k (.slice p m cap) (l.take m) := by
  obtain ⟨p', cap', hv, h1, h2, h3, h4⟩ := h
  cases hv
  refine ⟨p, cap, by simp [Nat.min_eq_left hm], by simp; omega, h2, h3, fun hp => ?_⟩
  rw [List.length_take, Nat.min_eq_left hm] at hp
  obtain ⟨b, off, h5, h6, h7⟩ := h4 (by omega)
  exact ⟨b, off, h5, h6, fun i hi => by rw [h7 i (by simp at hi; omega)]; simp⟩

/-- what a call answers: a slice of numbers l; memory that was there stays -/
def RAt (k : IntKind) (l : List Nat) (w : World) (e : Ending) (w' : World) : Prop := ∃ v', e = .returned v' ∧ At w' k v' l ∧ Below w.heap.size w w'
/-- likewise, nothing having turned -/
def RSame (k : IntKind) (l : List Nat) (w : World) (e : Ending) (w' : World) : Prop := ∃ v', e = .returned v' ∧ At w' k v' l ∧ w = w'
/-- a whole number by its sign and size -/
def sg (neg : Bool) (n : Nat) : Int := if neg then -(n : Int) else n
/-- a whole number as it is told -/
def IntAt (w : World) (v : Value) (z : Int) : Prop := ∃ s, v = .agg #[.bool (decide (z < 0)), s] ∧ At w .u64 s (Big.dig Big.W z.natAbs)
def RInt (z : Int) (w : World) (e : Ending) (w' : World) : Prop := ∃ v, e = .returned v ∧ IntAt w' v z ∧ Below w.heap.size w w'
/-- a whole number as it is handed in -/
def RawAt (w : World) (v : Value) (z : Int) : Prop := ∃ neg s l, v = .agg #[.bool neg, s] ∧ At w .u64 s l ∧ Big.Small Big.W l ∧ l.length ≤ 1099511627776 ∧ z = sg neg (Big.val Big.W l)
def RBool (b : Bool) (w : World) (e : Ending) (w' : World) : Prop := e = .returned (.bool b) ∧ Below w.heap.size w w'
def RNum (k : IntKind) (n : Int) (w : World) (e : Ending) (w' : World) : Prop := e = .returned (.int k n) ∧ Below w.heap.size w w'
theorem IntAt.below {w w' : World} {v : Value} {z : Int} (h : IntAt w v z) (hb : Below w.heap.size w w') : IntAt w' v z := by
  obtain ⟨s, hs, ha⟩ := h
  exact ⟨s, hs, ha.below hb⟩
theorem RawAt.below {w w' : World} {v : Value} {z : Int} (h : RawAt w v z) (hb : Below w.heap.size w w') : RawAt w' v z := by
  obtain ⟨neg, s, l, hs, ha, r⟩ := h
  exact ⟨neg, s, l, hs, ha.below hb, r⟩
theorem sg_natAbs (neg : Bool) (n : Nat) : (sg neg n).natAbs = n := by unfold sg; cases neg <;> simp
theorem sg_neg (neg : Bool) (n : Nat) (h : n ≠ 0) : decide (sg neg n < 0) = neg := by unfold sg; cases neg <;> simp <;> omega
theorem sg_zero (neg : Bool) : sg neg 0 = 0 := by unfold sg; cases neg <;> simp
theorem IntAt.zero (w : World) : IntAt w (.agg #[.bool false, .slice none 0 0]) 0 := ⟨_, by simp, At.nil w .u64⟩
theorem IntAt.mk {w : World} {neg : Bool} {s : Value} {n : Nat} (h0 : n ≠ 0) (h : At w .u64 s (Big.dig Big.W n)) : IntAt w (.agg #[.bool neg, s]) (sg neg n) :=
  ⟨s, by rw [sg_neg neg n h0], by rw [sg_natAbs]; exact h⟩
/-- a fresh cell of its own -/
theorem At.one (w : World) (k : IntKind) (x : Nat) (t : TypeId) : At (w.alloc (.cells #[.int k x] t)) k (.slice (some ⟨w.heap.size, 0, none⟩) 1 1) [x] :=
  ⟨_, 1, rfl, by simp, by simp [maxLen], fun h => (by cases h), fun _ => ⟨_, _, rfl, by simp, fun i hi => by
    obtain rfl : i = 0 := by simp at hi; omega
    simp [go_sem]⟩⟩
theorem below1 (w : World) (o : Obj) : Below w.heap.size w (w.alloc o) := (Below.refl _ _).alloc (Nat.le_refl _) o
def lenOf : Value → Nat | .slice _ n _ => n | _ => 0

theorem quiet_add_same {P : Program} {f : FuncId} {args : Array Value} {w : World} {a n : Nat} {v : Value}
    (h : Calls P f args (w.drewN (a + n)) fun e w' => e = .returned v ∧ w' = w.drewN (a + n)) :
    Calls P f args (w.drewN (a + n)) fun e w'' => e = .returned v ∧ ∃ m, w'' = w.drewN (a + m) :=
  h.mono fun _ _ ⟨he, hm⟩ => ⟨he, n, hm⟩
theorem At.drew {w : World} {k : IntKind} {v : Value} {l : List Nat} (h : At w k v l) : At w.drew k v l := h
theorem At.alloc {w : World} {k : IntKind} {v : Value} {l : List Nat} (h : At w k v l) (o : Obj) : At (w.alloc o) k v l := h.below (below1 w o)
/-- a slice cut behind its first m elements -/
def cutTo (v : Value) (m : Nat) : Value := match v with | .slice p _ c => .slice p m c | v => v
theorem At.cut {w : World} {k : IntKind} {v : Value} {l : List Nat} (h : At w k v l) (m : Nat) (hm : m ≤ l.length) : At w k (cutTo v m) (l.take m) := by
  have h' := h
  obtain ⟨p, cap, rfl, r⟩ := h'
  exact h.take m hm
theorem At.drewN {w : World} {k : IntKind} {v : Value} {l : List Nat} (h : At w k v l) (n : Nat) : At (w.drewN n) k v l := h

end Go.Proofs.YtippcalhcnjghaaDoor
/- whole.trim: what is left is the digits without the noughts at the end. -/
namespace Go.Proofs.YtippcalhcnjghaaDoor
open Go.RowKit Big

set_option maxHeartbeats 400000 in
theorem trim_val (v : Value) (l : List Nat) (w : World) (h : At w .u64 v l) :
    Calls Tryd.prog 38 #[v] w (fun e w' => e = .returned (cutTo v (strip l).length) ∧ w' = w) := by
  obtain ⟨p, cap, rfl, h1, h2, h3, h4⟩ := h
  unfold maxLen at h2
  go_enter Tryd.func38, Tryd.ntmps38
  go_wp2
  go_loop [0] (fun s => ∃ k : Nat, k ≤ l.length ∧ s = .slice p k cap ∧ strip (l.take k) = strip l) (fun s => lenOf s)
  case atStart => exact ⟨l.length, Nat.le_refl _, rfl, by rw [List.take_length]⟩
  case round =>
    obtain ⟨k, hk, rfl, hs⟩ := hrel
    have Hs := hid hs; clear hs
    by_cases hk0 : 0 < k
    · obtain ⟨b, off, rfl, hb, hc⟩ := h4 (by omega)
      have hck : w.cell? ⟨b, off + (k - 1), none⟩ = some (.int .u64 (l[k-1]'(by omega) : Nat)) := hc (k - 1) (by omega)
      clear hc h4
      go_wp2
      · go_round
        case rel =>
          have hz : ((l[k-1]'(by omega) : Nat) == 0) = true := by simpa using ‹((l[k-1]'(by omega) : Nat) == (0 : Int)) = true›
          refine ⟨k - 1, by omega, rfl, ?_⟩
          rw [← Hs.out, ← strip_take (k := k - 1) (by omega) (by simpa using hz), Nat.sub_add_cancel hk0]
        case measure => simp [lenOf]; omega
      · have hz : ¬ (l[k-1]'(by omega) : Nat) = 0 := by
          have := ‹((l[k-1]'(by omega) : Nat) == (0 : Int)) = false›
          simpa using this
        have hs := strip_take_ne (l := l) (k := k - 1) (by omega) hz
        rw [Nat.sub_add_cancel hk0, Hs.out] at hs
        go_ret
        exact ⟨by rw [hs, List.length_take, Nat.min_eq_left hk]; rfl, rfl⟩
    · obtain rfl : k = 0 := by omega
      have hs : Hid (strip l = []) := by rw [← Hs.out]; rfl
      go_wp2
      go_ret
      exact ⟨by rw [hs.out]; rfl, rfl⟩
theorem strip_is_take (l : List Nat) : strip l = l.take (strip l).length := by
  induction l with
  | nil => rfl
  | cons x l ih =>
    simp only [strip]
    cases h : strip l with
    | nil => by_cases hx : x = 0 <;> simp [hx]
    | cons y m =>
      rw [h] at ih
      simp only [List.length_cons] at ih ⊢
      rw [List.take_succ_cons, ← ih]
theorem At.strip {w : World} {k : IntKind} {v : Value} {l : List Nat} (h : At w k v l) : At w k (cutTo v (strip l).length) (strip l) := by
  have := h.cut (Big.strip l).length (strip_length l)
  rwa [← strip_is_take] at this
theorem trim_any (v : Value) (l : List Nat) (w : World) (h : At w .u64 v l) : Calls Tryd.prog 38 #[v] w (RSame .u64 (strip l) w) :=
  (trim_val v l w h).mono fun _ _ ⟨he, hw⟩ => ⟨_, he, by subst hw; exact h.strip, hw.symm⟩
end Go.Proofs.YtippcalhcnjghaaDoor
/- elenchusref01.trim: what is left is the digits without the noughts at the end. -/
namespace Go.Proofs.YtippcalhcnjghaaDoor
open Go.RowKit Big

set_option maxHeartbeats 400000 in
theorem rtrim_val (v : Value) (l : List Nat) (w : World) (h : At w .i64 v l) :
    Calls Tryd.prog 70 #[v] w (fun e w' => e = .returned (cutTo v (strip l).length) ∧ w' = w) := by
  obtain ⟨p, cap, rfl, h1, h2, h3, h4⟩ := h
  unfold maxLen at h2
  go_enter Tryd.func70, Tryd.ntmps70
  go_wp2
  go_loop [0] (fun s => ∃ k : Nat, k ≤ l.length ∧ s = .slice p k cap ∧ strip (l.take k) = strip l) (fun s => lenOf s)
  case atStart => exact ⟨l.length, Nat.le_refl _, rfl, by rw [List.take_length]⟩
  case round =>
    obtain ⟨k, hk, rfl, hs⟩ := hrel
    have Hs := hid hs; clear hs
    by_cases hk0 : 0 < k
    · obtain ⟨b, off, rfl, hb, hc⟩ := h4 (by omega)
      have hck : w.cell? ⟨b, off + (k - 1), none⟩ = some (.int .i64 (l[k-1]'(by omega) : Nat)) := hc (k - 1) (by omega)
      clear hc h4
      go_wp2
      · go_round
        case rel =>
          have hz : ((l[k-1]'(by omega) : Nat) == 0) = true := by simpa using ‹((l[k-1]'(by omega) : Nat) == (0 : Int)) = true›
          refine ⟨k - 1, by omega, rfl, ?_⟩
          rw [← Hs.out, ← strip_take (k := k - 1) (by omega) (by simpa using hz), Nat.sub_add_cancel hk0]
        case measure => simp [lenOf]; omega
      · have hz : ¬ (l[k-1]'(by omega) : Nat) = 0 := by
          have := ‹((l[k-1]'(by omega) : Nat) == (0 : Int)) = false›
          simpa using this
        have hs := strip_take_ne (l := l) (k := k - 1) (by omega) hz
        rw [Nat.sub_add_cancel hk0, Hs.out] at hs
        go_ret
        exact ⟨by rw [hs, List.length_take, Nat.min_eq_left hk]; rfl, rfl⟩
    · obtain rfl : k = 0 := by omega
      have hs : Hid (strip l = []) := by rw [← Hs.out]; rfl
      go_wp2
      go_ret
      exact ⟨by rw [hs.out]; rfl, rfl⟩
theorem rtrim_any (v : Value) (l : List Nat) (w : World) (h : At w .i64 v l) : Calls Tryd.prog 70 #[v] w (RSame .i64 (strip l) w) :=
  (rtrim_val v l w h).mono fun _ _ ⟨he, hw⟩ => ⟨_, he, by subst hw; exact h.strip, hw.symm⟩
end Go.Proofs.YtippcalhcnjghaaDoor
/- Slices of numbers that a call has made itself: what append and make do with them. -/
namespace Go.Proofs.YtippcalhcnjghaaDoor
open Go.RowKit Big

/-- t is the type of slices of e, the integers of kind k, of so many bytes -/
structure Elem (P : Program) (t e : TypeId) (k : IntKind) (size : Nat) : Prop where
  und : P.underlying t = some (.slice e)
  row : ∃ i, P.info? e = some i ∧ i.zero = some (.int k 0) ∧ i.size = 1 ∧ i.bytes = size
def ints (k : IntKind) (l : List Nat) : List Value := l.map fun x => Value.int k (x : Nat)
/-- v holds the numbers l in a row of the call's own, from block base on -/
def Own (w : World) (base : Nat) (e : TypeId) (k : IntKind) (v : Value) (l : List Nat) : Prop := w.ownsRow base e 1 v l.length (ints k l)

theorem ints_length (k : IntKind) (l : List Nat) : (ints k l).length = l.length := by simp [ints]
theorem ints_append (k : IntKind) (l m : List Nat) : ints k (l ++ m) = ints k l ++ ints k m := by simp [ints]
theorem Own.nil (w : World) (base : Nat) (e : TypeId) (k : IntKind) : Own w base e k (.slice none 0 0) [] := World.ownsRow_nil w base e 1
theorem Own.at {w : World} {base : Nat} {e : TypeId} {k : IntKind} {v : Value} {l : List Nat} (h : Own w base e k v l) : At w k v l := by
  have h' := h
  unfold Own at h'
  rcases h'.2 with ⟨rfl, h0⟩ | ⟨g, cap, cur, rfl, _, hg, hn, hm, _, _⟩
  · obtain rfl := List.eq_nil_of_length_eq_zero h0
    exact At.nil w k
  · refine ⟨_, cap, rfl, hn, hm, fun h => (by cases h), fun _ => ⟨g, 0, rfl, (Array.getElem?_eq_some_iff.1 hg).1, fun i hi => ?_⟩⟩
    have := World.ownsRow.cellAt h' i (by omega)
    rw [Nat.zero_add, this]
    simp [ints, hi]
theorem Own.kept {w w' : World} {base : Nat} {e : TypeId} {k : IntKind} {v : Value} {l : List Nat} (h : Own w base e k v l) (hb : Below w.heap.size w w') : Own w' base e k v l := by
  refine ⟨h.1, ?_⟩
  rcases h.2 with hn | ⟨g, cap, cur, rfl, h1, hg, r⟩
  · exact Or.inl hn
  · exact Or.inr ⟨g, cap, cur, rfl, h1, by rw [hb.block g (Array.getElem?_eq_some_iff.1 hg).1]; exact hg, r⟩
theorem Own.alloc {w : World} {base : Nat} {e : TypeId} {k : IntKind} {v : Value} {l : List Nat} (h : Own w base e k v l) (o : Obj) : Own (w.alloc o) base e k v l := h.kept (below1 w o)
theorem Own.mono {w : World} {base base' : Nat} {e : TypeId} {k : IntKind} {v : Value} {l : List Nat} (h : Own w base e k v l) (hb : base' ≤ base) : Own w base' e k v l := by
  refine ⟨h.1, ?_⟩
  rcases h.2 with hn | ⟨g, cap, cur, rfl, h1, r⟩
  · exact Or.inl hn
  · exact Or.inr ⟨g, cap, cur, rfl, Nat.le_trans hb h1, r⟩
/-- a row that is written is one of the call's own -/
theorem Own.row {w : World} {base : Nat} {e : TypeId} {k : IntKind} {v : Value} {l : List Nat} (h : Own w base e k v l) : ∀ g, v.ownBlock = some g → base ≤ g := fun g hg => (World.ownsRow.lt h g hg).1
/-- a cut at the end -/
theorem Own.take {w : World} {base : Nat} {e : TypeId} {k : IntKind} {p : Option Addr} {n cap : Nat} {l : List Nat} (h : Own w base e k (.slice p n cap) l) (m : Nat) (hm : m ≤ l.length) : Own w base e k (.slice p m cap) (l.take m) := by
  have hl : (l.take m).length = m := by simp [Nat.min_eq_left hm]
  unfold Own at h ⊢
  rw [hl]
  refine ⟨by simp [ints_length, hl], ?_⟩
  rcases h.2 with ⟨h1, h2⟩ | ⟨g, c, cur, h1, h2, h3, h4, h5, h6, h7⟩
  · cases h1; exact Or.inl ⟨by rw [show m = 0 by omega], by omega⟩
  · cases h1
    refine Or.inr ⟨g, cap, cur, rfl, h2, h3, by omega, h5, h6, ?_⟩
    have : (ints k l).take m = ints k (l.take m) := by simp [ints, List.map_take]
    rw [← this, ← h7, List.take_take]
    congr 1; omega

/-- what a call answers: a slice of numbers l in memory of its own -/
def ROwn (e : TypeId) (k : IntKind) (l : List Nat) (w : World) (en : Ending) (w' : World) : Prop := ∃ v', en = .returned v' ∧ Own w' w.heap.size e k v' l ∧ Below w.heap.size w w'
theorem elemNat : Elem Tryd.prog 23 59 .u64 8 := ⟨Tryd.underlying23, info_parts (by kernel_rfl)⟩
theorem elemInts : Elem Tryd.prog 53 3 .i64 8 := ⟨Tryd.underlying53, info_parts (by kernel_rfl)⟩
theorem elemHalves : Elem Tryd.prog 65 67 .u32 4 := ⟨Tryd.underlying65, info_parts (by kernel_rfl)⟩

section
variable {P : Program} {w : World} {ops : Array Oper} {rest : List Oper} {o : Oper} {a : Act} {Q : Exit → Act → World → Prop}

/-- 'append(v, x...)': v the call's own, x whatever slice of numbers -/
theorem wpList_append_at (hgd : o.guard = none) (s x : Operand) (t : TypeId)
    (ho : o.op = .call { callee := .builtin .append, args := #[s, x], argTypes := #[t, t] })
    {e : TypeId} {k : IntKind} {size : Nat} (E : Elem P t e k size) (base : Nat) (v : Value) (l : List Nat) (hs : a.eval s = v) (hown : Own w base e k v l)
    (vx : Value) (m : List Nat) (hx : a.eval x = vx) (hat : At w k vx m)
    (hlen : l.length + m.length ≤ maxLen) (hbytes : (l.length + m.length) * size ≤ 140737488355328) (hbase : base ≤ w.heap.size)
    (h : ∀ v' w', Own w' base e k v' (l ++ m) → Below base w w' → w.heap.size ≤ w'.heap.size → wpList P ops Q rest (a.put o.dst v') w') : wpList P ops Q (o :: rest) a w := by
  obtain ⟨i, hi, hz, hsz, hby⟩ := E.row
  obtain ⟨p, cap, rfl, h1, h2, h3, h4⟩ := hat
  cases p with
  | none =>
    obtain rfl := h3 rfl
    obtain rfl : m = [] := List.eq_nil_of_length_eq_zero (by omega)
    exact wpList_append_own_none hgd s x t ho base e i 1 E.und hi v l.length (ints k l) hs hown hx (h _ _ (by rw [List.append_nil]; exact hown) (Below.refl _ _) (Nat.le_refl _))
  | some ad =>
    refine wpList_append_own w hgd s x t ho base e i (.int k 0) 1 size E.und hi hz hsz hby rfl (by decide) v l.length (ints k l) hs hown ad m.length cap (ints k m) hx (by simp [ints_length]) ?_ ?_ hlen hbytes hbase ?_
    · intro j u hj
      by_cases hjm : j < m.length
      · obtain ⟨b, off, he, hb, hc⟩ := h4 (by omega)
        cases he
        rw [Go.WideShapes.add_plain, hc j hjm]
        simpa [ints, hjm] using hj
      · rw [List.getElem?_eq_none (by rw [ints_length]; omega)] at hj; cases hj
    · intro u hu
      obtain ⟨n, _, rfl⟩ := List.mem_map.1 hu
      rfl
    · intro v' w' h5 h6 _
      refine h v' w' ?_ ((Below.refl _ _).grown h6 hbase hown.row) h6.size
      unfold Own
      rw [List.length_append, ints_append]; exact h5

/-- 'make([]T, 0, n)' -/
theorem wpList_make_at (hg : o.guard = none) (l c : Operand) (t : TypeId) (hop : o.op = Op.makeSlice t l c)
    {e : TypeId} {k : IntKind} {size : Nat} (E : Elem P t e k size) (base : Nat)
    (kl kc : IntKind) (C : Int) (n : Nat) (hl : a.eval l = .int kl 0) (hc : a.eval c = .int kc C) (hC : C = (n : Int)) (b2 : size * n ≤ 281474976710656) (b3 : n ≤ maxLen) (b4 : base ≤ w.heap.size)
    (hK : ∀ v w', Own w' base e k v [] → Below base w w' → w.heap.size ≤ w'.heap.size → v = (.slice (some ⟨w.heap.size, 0, none⟩) 0 n) → wpList P ops Q rest (a.put o.dst v) w') :
    wpList P ops Q (o :: rest) a w := by
  obtain ⟨i, hi, hz, hsz, hby⟩ := E.row
  subst hby
  exact wpList_make_own w hg l c t hop base e i (.int k 0) 1 E.und hi hz hsz kl kc C n hl hc hC b2 b3 b4 fun w' h1 h2 => hK _ w' h1 ((Below.refl _ _).grown h2 b4 (fun _ h => by cases h)) h2.size rfl

/-- 'make([]T, n)' -/
theorem wpList_full_at (hg : o.guard = none) (l c : Operand) (t : TypeId) (hop : o.op = Op.makeSlice t l c)
    {e : TypeId} {k : IntKind} {size : Nat} (E : Elem P t e k size) (base : Nat)
    (kl kc : IntKind) (L C : Int) (n : Nat) (hl : a.eval l = .int kl L) (hc : a.eval c = .int kc C) (hL : L = (n : Int)) (hC : C = (n : Int)) (b2 : size * n ≤ 281474976710656) (b3 : n ≤ maxLen) (b4 : base ≤ w.heap.size)
    (hK : ∀ v w', Own w' base e k v (List.replicate n 0) → Below base w w' → w.heap.size ≤ w'.heap.size → v = (.slice (some ⟨w.heap.size, 0, none⟩) n n) → wpList P ops Q rest (a.put o.dst v) w') :
    wpList P ops Q (o :: rest) a w := by
  obtain ⟨i, hi, hz, hsz, hby⟩ := E.row
  subst hby
  refine wpList_make_full w hg l c t hop base e i (.int k 0) 1 E.und hi hz hsz kl kc L C n hl hc hL hC b2 b3 b4 fun w' h1 h2 => hK _ w' ?_ ((Below.refl _ _).grown h2 b4 (fun _ h => by cases h)) h2.size rfl
  unfold Own
  rw [List.length_replicate]
  have e1 : (madeCells (Value.int k 0).cells (n * 1)).toList = ints k (List.replicate n 0) := by
    rw [Nat.mul_one]
    show (madeCells #[Value.int k 0] n).toList = _
    rw [toList_madeCells_one]
    simp [ints]
  rw [← e1]; exact h1
end

end Go.Proofs.YtippcalhcnjghaaDoor
/- Small facts on new blocks. -/
namespace Go.Proofs.YtippcalhcnjghaaDoor
open Go.RowKit Big
theorem size_alloc (w : World) (o : Obj) : (w.alloc o).heap.size = w.heap.size + 1 := by simp
theorem heap_new1 (w : World) (o : Obj) : (w.alloc o).drew.heap[w.heap.size]? = some o := heap_alloc_new w o
theorem heap_new2 (w : World) (o1 o2 : Obj) : ((w.alloc o1).alloc o2).drew.heap[w.heap.size + 1]? = some o2 := by
  have := heap_alloc_new (w.alloc o1) o2
  rwa [size_alloc] at this
theorem heap_new3 (w : World) (o1 o2 o3 : Obj) : (((w.alloc o1).alloc o2).alloc o3).drew.heap[w.heap.size + 2]? = some o3 := by
  have := heap_alloc_new ((w.alloc o1).alloc o2) o3
  rwa [size_alloc, size_alloc] at this
theorem two_cells {w : World} {g : Nat} {a b : Value} {t : TypeId} (h : w.heap[g]? = some (.cells #[a, b] t (0, 0))) :
    w.cell? ⟨g, 0, none⟩ = some a ∧ w.cell? ⟨g, 1, none⟩ = some b ∧ w.frozen? ⟨g, 0, none⟩ = false ∧ w.frozen? ⟨g, 1, none⟩ = false :=
  ⟨by rw [cell_of_row w g 0 _ t (0, 0) h]; rfl, by rw [cell_of_row w g 1 _ t (0, 0) h]; rfl, frozen_of_row w g 0 _ t h, frozen_of_row w g 1 _ t h⟩
/-- block g is a variable that holds a whole number: a bool and a slice -/
def Pair (w : World) (g : Nat) (t : TypeId) : Prop := ∃ x p n c, w.heap[g]? = some (.cells #[.bool x, .slice p n c] t (0, 0))
theorem Pair.cells {w : World} {g : Nat} {t : TypeId} (h : Pair w g t) : ∃ a b, w.cell? ⟨g, 0, none⟩ = some a ∧ w.cell? ⟨g, 1, none⟩ = some b ∧ w.frozen? ⟨g, 0, none⟩ = false ∧ w.frozen? ⟨g, 1, none⟩ = false := by
  obtain ⟨x, p, n, c, h⟩ := h
  exact ⟨_, _, two_cells h⟩
theorem Pair.below {w w' : World} {g : Nat} {t : TypeId} (h : Pair w g t) (hb : Below w.heap.size w w') : Pair w' g t := by
  obtain ⟨x, p, n, c, h⟩ := h
  exact ⟨x, p, n, c, (hb.block g (Array.getElem?_eq_some_iff.1 h).1).trans h⟩
theorem Pair.lt {w : World} {g : Nat} {t : TypeId} (h : Pair w g t) : g < w.heap.size := by
  obtain ⟨x, p, n, c, h⟩ := h
  exact (Array.getElem?_eq_some_iff.1 h).1
theorem Pair.set0 {w : World} {g : Nat} {t : TypeId} (h : Pair w g t) (x : Bool) : Pair (w.setCell ⟨g, 0, none⟩ (.bool x)) g t := by
  obtain ⟨y, p, n, c, h⟩ := h
  exact ⟨x, p, n, c, heap_setCell_same w g 0 _ t _ h⟩
theorem Pair.set1 {w : World} {g : Nat} {t : TypeId} (h : Pair w g t) (p : Option Addr) (n c : Nat) : Pair (w.setCell ⟨g, 1, none⟩ (.slice p n c)) g t := by
  obtain ⟨y, p', n', c', h⟩ := h
  exact ⟨y, p, n, c, heap_setCell_same w g 1 _ t _ h⟩
theorem Pair.drew {w : World} {g : Nat} {t : TypeId} (h : Pair w g t) : Pair w.drew g t := h
theorem Pair.new (w : World) (x : Bool) (p : Option Addr) (n c : Nat) (t : TypeId) : Pair (w.alloc (.cells #[.bool x, .slice p n c] t)) w.heap.size t := ⟨x, p, n, c, heap_alloc_new w _⟩
theorem Pair.new1 (w : World) (o : Obj) (x : Bool) (p : Option Addr) (n c : Nat) (t : TypeId) : Pair ((w.alloc o).alloc (.cells #[.bool x, .slice p n c] t)) (w.heap.size + 1) t := by
  have := Pair.new (w.alloc o) x p n c t
  rwa [size_alloc] at this
theorem Pair.new2 (w : World) (o o' : Obj) (x : Bool) (p : Option Addr) (n c : Nat) (t : TypeId) : Pair (((w.alloc o).alloc o').alloc (.cells #[.bool x, .slice p n c] t)) (w.heap.size + 2) t := by
  have := Pair.new ((w.alloc o).alloc o') x p n c t
  rwa [size_alloc, size_alloc] at this
theorem Pair.new3 (w : World) (o o' o'' : Obj) (x : Bool) (p : Option Addr) (n c : Nat) (t : TypeId) : Pair ((((w.alloc o).alloc o').alloc o'').alloc (.cells #[.bool x, .slice p n c] t)) (w.heap.size + 1 + 1 + 1) t := by
  have := Pair.new (((w.alloc o).alloc o').alloc o'') x p n c t
  rwa [size_alloc, size_alloc, size_alloc] at this
/-- a store into such a variable turns no slice of numbers -/
theorem At.set {w : World} {k : IntKind} {v : Value} {l : List Nat} {g : Nat} {t : TypeId} (h : At w k v l) (hp : Pair w g t) (j : Nat) (u : Value) : At (w.setCell ⟨g, j, none⟩ u) k v l := by
  obtain ⟨p, cap, hv, h1, h2, h3, h4⟩ := h
  refine ⟨p, cap, hv, h1, h2, h3, fun hl => ?_⟩
  obtain ⟨b, off, h5, h6, h7⟩ := h4 hl
  have hne : b ≠ g := by
    rintro rfl
    obtain ⟨x, q, n, c, hh⟩ := hp
    have h0 := h7 0 hl
    rw [cell_of_row w b (off + 0) _ t (0, 0) hh] at h0
    rcases (by omega : off = 0 ∨ off = 1 ∨ 2 ≤ off) with e | e | e
    · subst e; simp at h0
    · subst e; simp at h0
    · rw [Array.getElem?_eq_none (by simpa using e)] at h0; cases h0
  refine ⟨b, off, h5, by simpa [World.setCell] using h6, fun i hi => ?_⟩
  rw [← h7 i hi]
  exact World.cell?_of_block (w := w) (Below.heap_setCell w _ u b hne)
theorem At.stored {w : World} {k : IntKind} {v : Value} {l : List Nat} {g : Nat} {t : TypeId} (h : At w k v l) (hp : Pair w g t) (x : Bool) (p : Option Addr) (n c : Nat) :
    At ((w.setCell ⟨g, 0, none⟩ (.bool x)).setCell ⟨g, 1, none⟩ (.slice p n c)) k v l := (h.set hp 0 _).set (hp.set0 x) 1 _
theorem IntAt.stored {w : World} {v : Value} {z : Int} {g : Nat} {t : TypeId} (h : IntAt w v z) (hp : Pair w g t) (x : Bool) (p : Option Addr) (n c : Nat) :
    IntAt ((w.setCell ⟨g, 0, none⟩ (.bool x)).setCell ⟨g, 1, none⟩ (.slice p n c)) v z := by
  obtain ⟨s, hs, ha⟩ := h
  exact ⟨s, hs, ha.stored hp x p n c⟩
theorem Below.stored {B : Nat} {w w' : World} (h : Below B w w') {g : Nat} (hg : B ≤ g) (u u' : Value) : Below B w ((w'.setCell ⟨g, 0, none⟩ u).setCell ⟨g, 1, none⟩ u') :=
  (h.setCell (p := ⟨g, 0, none⟩) hg u).setCell (p := ⟨g, 1, none⟩) hg u'
theorem IntAt.shape {w : World} {v : Value} {z : Int} (h : IntAt w v z) : ∃ p n c, v = .agg #[.bool (decide (z < 0)), .slice p n c] ∧ IntAt w (.agg #[.bool (decide (z < 0)), .slice p n c]) z := by
  obtain ⟨s, rfl, p, c, rfl, r⟩ := h
  exact ⟨p, _, c, rfl, _, rfl, p, c, rfl, r⟩
theorem At.oneI (w : World) (k : IntKind) (e : Int) (x : Nat) (t : TypeId) (h : e = (x : Int)) : At (w.alloc (.cells #[.int k e] t)) k (.slice (some ⟨w.heap.size, 0, none⟩) 1 1) [x] := by
  subst h; exact At.one w k x t
theorem cell_stored (w : World) {g : Nat} {p : Addr} (h : p.block ≠ g) (u u' : Value) : ((w.setCell ⟨g, 0, none⟩ u).setCell ⟨g, 1, none⟩ u').cell? p = w.cell? p :=
  World.cell?_of_block (w := w) ((Below.heap_setCell _ _ _ _ h).trans (Below.heap_setCell _ _ _ _ h))
/-- the cells of two variables that a call has laid for its arguments -/
structure Two (w : World) (g : Nat) (a b c d : Value) : Prop where
  c00 : w.cell? ⟨g, 0, none⟩ = some a
  c01 : w.cell? ⟨g, 1, none⟩ = some b
  c10 : w.cell? ⟨g + 1, 0, none⟩ = some c
  c11 : w.cell? ⟨g + 1, 1, none⟩ = some d
  lt : g + 2 ≤ w.heap.size
theorem Two.new (w : World) (a b c d : Value) (t : TypeId) : Two ((w.alloc (.cells #[a, b] t)).alloc (.cells #[c, d] t)) w.heap.size a b c d := by
  have h0 : ((w.alloc (.cells #[a, b] t)).alloc (.cells #[c, d] t)).heap[w.heap.size]? = some (.cells #[a, b] t (0, 0)) := by
    rw [heap_alloc_old _ _ (by simp)]; exact heap_alloc_new w _
  have h1 : ((w.alloc (.cells #[a, b] t)).alloc (.cells #[c, d] t)).heap[w.heap.size + 1]? = some (.cells #[c, d] t (0, 0)) := heap_new2 w _ _
  exact ⟨(two_cells h0).1, (two_cells h0).2.1, (two_cells h1).1, (two_cells h1).2.1, by simp⟩
theorem Two.below {w w' : World} {g : Nat} {a b c d : Value} (h : Two w g a b c d) (hb : Below w.heap.size w w') : Two w' g a b c d :=
  ⟨(hb.cell (p := ⟨g, 0, none⟩) (by have := h.lt; show g < _; omega)).trans h.c00, (hb.cell (p := ⟨g, 1, none⟩) (by have := h.lt; show g < _; omega)).trans h.c01,
   (hb.cell (p := ⟨g + 1, 0, none⟩) (by have := h.lt; show g + 1 < _; omega)).trans h.c10, (hb.cell (p := ⟨g + 1, 1, none⟩) (by have := h.lt; show g + 1 < _; omega)).trans h.c11, Nat.le_trans h.lt hb.size⟩
end Go.Proofs.YtippcalhcnjghaaDoor
/- elenchusref01.at, Digits. -/
namespace Go.Proofs.YtippcalhcnjghaaDoor
open Go.RowKit Big

set_option maxHeartbeats 400000 in
theorem at_any (v : Value) (l : List Nat) (i : Nat) (w : World) (h : At w .i64 v l) :
    Calls Tryd.prog 71 #[v, .int .i64 (i : Nat)] w fun e w' => e = .returned (.int .i64 (l[i]?.getD 0 : Nat)) ∧ w' = w := by
  obtain ⟨p, cap, rfl, h1, h2, h3, h4⟩ := h
  unfold maxLen at h2
  by_cases hi : i < l.length
  · obtain ⟨b, off, rfl, hb, hc⟩ := h4 (by omega)
    have hck := hc i hi
    have he : Hid (l[i]?.getD 0 = l[i]) := by unfold Hid; simp [hi]
    generalize l[i] = x at *
    clear hc h4
    go_enter Tryd.func71, Tryd.ntmps71
    go_wp2
    go_ret
    exact ⟨by rw [he.out]; rfl, rfl⟩
  · have he : Hid (l[i]?.getD 0 = 0) := by unfold Hid; simp [Nat.le_of_not_lt hi]
    clear h4
    go_enter Tryd.func71, Tryd.ntmps71
    go_wp2
    go_ret
    exact ⟨by rw [he.out]; rfl, rfl⟩

theorem digit_step0 {M : List Nat} {k x V : Nat} (h : M.length = 4 * k + 0) (hv : val D M = V + D ^ (4 * k) * (x % D ^ 0)) : val D (M ++ [x % 65536]) = V + D ^ (4 * k) * (x % D ^ 1) := by
  rw [val_snoc, hv, h, Nat.pow_add]
  have e : x % D ^ 1 = x % D ^ 0 + D ^ 0 * (x % 65536) := by unfold D; omega
  rw [e]; grind
theorem digit_step1 {M : List Nat} {k x V : Nat} (h : M.length = 4 * k + 1) (hv : val D M = V + D ^ (4 * k) * (x % D ^ 1)) : val D (M ++ [x / 65536 % 65536]) = V + D ^ (4 * k) * (x % D ^ 2) := by
  rw [val_snoc, hv, h, Nat.pow_add]
  have e : x % D ^ 2 = x % D ^ 1 + D ^ 1 * (x / 65536 % 65536) := by unfold D; omega
  rw [e]; grind
theorem digit_step2 {M : List Nat} {k x V : Nat} (h : M.length = 4 * k + 2) (hv : val D M = V + D ^ (4 * k) * (x % D ^ 2)) : val D (M ++ [x / 4294967296 % 65536]) = V + D ^ (4 * k) * (x % D ^ 3) := by
  rw [val_snoc, hv, h, Nat.pow_add]
  have e : x % D ^ 3 = x % D ^ 2 + D ^ 2 * (x / 4294967296 % 65536) := by unfold D; omega
  rw [e]; grind
theorem digit_step3 {M : List Nat} {k x V : Nat} (h : M.length = 4 * k + 3) (hv : val D M = V + D ^ (4 * k) * (x % D ^ 3)) : val D (M ++ [x / 281474976710656 % 65536]) = V + D ^ (4 * k) * (x % D ^ 4) := by
  rw [val_snoc, hv, h, Nat.pow_add]
  have e : x % D ^ 4 = x % D ^ 3 + D ^ 3 * (x / 281474976710656 % 65536) := by unfold D; omega
  rw [e]; grind

set_option maxRecDepth 100000 in
set_option maxHeartbeats 1600000 in
theorem Digits_any (v : Value) (l : List Nat) (w : World) (h : At w .u64 v l) (hs : Small W l) (hlen : l.length ≤ 2199023255552) :
    Calls Tryd.prog 45 #[v] w (RAt .i64 (dig D (val W l)) w) := by
  obtain ⟨p, cap, rfl, a1, a2, a3, a4⟩ := h
  unfold maxLen at a2
  go_enter Tryd.func45, Tryd.ntmps45
  go_wp2_with fail
  go_loopw [3, 9] (fun o i wr => ∃ (k : Nat) (L : List Nat), k ≤ l.length ∧ i = .int .i64 (k : Nat) ∧ Own wr w.heap.size 3 .i64 o L ∧ Hid (L.length = 4 * k) ∧ Small D L ∧
      Hid (val D L = val W (l.take k)) ∧ Below w.heap.size w wr) (fun _ i _ => l.length - (intOf i).toNat)
  case atStart => exact ⟨0, [], Nat.zero_le _, rfl, Own.nil _ _ _ _, rfl, small_nil _, rfl, Below.refl _ _⟩
  case round =>
    obtain ⟨k, L, hk, rfl, hown, hLk, hsl, hv, hbel⟩ := hrel
    by_cases hkl : k < l.length
    · obtain ⟨b, off, rfl, hbb, hcell⟩ := a4 (by omega)
      have e0 : wr.cell? ⟨b, off + k, none⟩ = some (.int .u64 (l[k] : Nat)) := (hbel.cell (p := ⟨b, off + k, none⟩) hbb).trans (hcell k hkl)
      have x0 := small_get hs k hkl
      obtain ⟨x, hx⟩ : ∃ x, x = l[k] := ⟨_, rfl⟩
      rw [← hx] at e0 x0
      have Hx := hid hx; clear hx hcell a4
      unfold W at x0
      go_wp2_with fail
      go_loopw [3, 6] (fun o i wq => ∃ (j : Nat) (M : List Nat), j ≤ 4 ∧ i = .int .i64 (j : Nat) ∧ Own wq w.heap.size 3 .i64 o M ∧ Hid (M.length = 4 * k + j) ∧ Small D M ∧
        Hid (val D M = val W (l.take k) + D ^ (4 * k) * (x % D ^ j)) ∧ Below w.heap.size w wq) (fun _ i _ => 4 - (intOf i).toNat)
      case atStart => exact ⟨0, L, Nat.zero_le _, rfl, hown, by unfold Hid at hLk ⊢; omega, hsl, by unfold Hid at hv ⊢; simp [hv, Nat.mod_one], hbel⟩
      case round =>
        obtain ⟨j, M, hj, rfl, hown', hMk, hsM, hvM, hbel'⟩ := hrel
        by_cases hj4 : j < 4
        · rcases (by omega : j = 0 ∨ j = 1 ∨ j = 2 ∨ j = 3) with rfl | rfl | rfl | rfl
          · go_wp2_with (at_builtin; refine wpList_append_at rfl _ _ 53 rfl elemInts w.heap.size _ M rfl (hown'.alloc _) _ [x % 65536] rfl (At.oneI _ _ _ _ _ (by omega)) (by rw [hMk.out]; simp [maxLen]; omega) (by rw [hMk.out]; simp; omega) (by have := hbel'.size; simp; omega) ?_; intro v2 w2 ho2 hb2 hs2)
            go_roundw
            case rel => exact ⟨1, M ++ [x % 65536], by omega, by go_num, ho2, by have := hMk.out; unfold Hid; simp; omega, small_snoc hsM (Nat.mod_lt _ (by decide)),
                digit_step0 hMk.out hvM.out, (hbel'.trans ((below1 _ _).mono hbel'.size)).trans hb2⟩
            case measure => simp [intOf]
          · go_wp2_with (at_builtin; refine wpList_append_at rfl _ _ 53 rfl elemInts w.heap.size _ M rfl (hown'.alloc _) _ [x / 65536 % 65536] rfl (At.oneI _ _ _ _ _ (by omega)) (by rw [hMk.out]; simp [maxLen]; omega) (by rw [hMk.out]; simp; omega) (by have := hbel'.size; simp; omega) ?_; intro v2 w2 ho2 hb2 hs2)
            go_roundw
            case rel => exact ⟨2, M ++ [x / 65536 % 65536], by omega, by go_num, ho2, by have := hMk.out; unfold Hid; simp; omega, small_snoc hsM (Nat.mod_lt _ (by decide)),
                digit_step1 hMk.out hvM.out, (hbel'.trans ((below1 _ _).mono hbel'.size)).trans hb2⟩
            case measure => simp [intOf]
          · go_wp2_with (at_builtin; refine wpList_append_at rfl _ _ 53 rfl elemInts w.heap.size _ M rfl (hown'.alloc _) _ [x / 4294967296 % 65536] rfl (At.oneI _ _ _ _ _ (by omega)) (by rw [hMk.out]; simp [maxLen]; omega) (by rw [hMk.out]; simp; omega) (by have := hbel'.size; simp; omega) ?_; intro v2 w2 ho2 hb2 hs2)
            go_roundw
            case rel => exact ⟨3, M ++ [x / 4294967296 % 65536], by omega, by go_num, ho2, by have := hMk.out; unfold Hid; simp; omega, small_snoc hsM (Nat.mod_lt _ (by decide)),
                digit_step2 hMk.out hvM.out, (hbel'.trans ((below1 _ _).mono hbel'.size)).trans hb2⟩
            case measure => simp [intOf]
          · go_wp2_with (at_builtin; refine wpList_append_at rfl _ _ 53 rfl elemInts w.heap.size _ M rfl (hown'.alloc _) _ [x / 281474976710656 % 65536] rfl (At.oneI _ _ _ _ _ (by omega)) (by rw [hMk.out]; simp [maxLen]; omega) (by rw [hMk.out]; simp; omega) (by have := hbel'.size; simp; omega) ?_; intro v2 w2 ho2 hb2 hs2)
            go_roundw
            case rel => exact ⟨4, M ++ [x / 281474976710656 % 65536], by omega, by go_num, ho2, by have := hMk.out; unfold Hid; simp; omega, small_snoc hsM (Nat.mod_lt _ (by decide)),
                digit_step3 hMk.out hvM.out, (hbel'.trans ((below1 _ _).mono hbel'.size)).trans hb2⟩
            case measure => simp [intOf]
        · obtain rfl : j = 4 := by omega
          have hv4 : Hid (val D M = val W (l.take (k + 1))) := by
            unfold Hid
            rw [hvM.out, val_take_succ W l k hkl, show D ^ (4 * k) = W ^ k by rw [Nat.pow_mul]; rfl, Nat.mod_eq_of_lt (show x < D ^ 4 from x0), Hx.out]
          go_wp2_with fail
          go_roundw
          case rel => exact ⟨k + 1, M, by omega, by go_num, hown', by have := hMk.out; unfold Hid; omega, hsM, hv4, hbel'⟩
          case measure => simp [intOf]; omega
    · obtain rfl : k = l.length := by omega
      have hv' : Hid (strip L = dig D (val W l)) := by
        have := hv.out
        rw [List.take_length] at this
        unfold Hid
        rw [← this, strip_dig D2 hsl]
      clear a4
      go_wp2_with (go_at_call 70; refine (rtrim_any _ L _ hown.at).mono ?_; rintro e w' ⟨v', rfl, hv'', rfl⟩)
      go_ret
      exact ⟨_, rfl, by rw [← hv'.out]; exact hv'', hbel⟩
end Go.Proofs.YtippcalhcnjghaaDoor
/- elenchusref01.plus: sums of digits. -/
namespace Go.Proofs.YtippcalhcnjghaaDoor
open Go.RowKit Big

theorem rplus_step {L l0 l1 : List Nat} {k x y c : Nat} (hl : L.length = k) (hx : x = l0[k]?.getD 0) (hy : y = l1[k]?.getD 0)
    (hv : val D L + c * D ^ k = val D (l0.take k) + val D (l1.take k)) : val D (L ++ [(c + x + y) % 65536]) + (c + x + y) / 65536 * D ^ (k + 1) = val D (l0.take (k + 1)) + val D (l1.take (k + 1)) := by
  rw [val_snoc, val_take_getD, val_take_getD, hl, ← hx, ← hy, Nat.pow_succ]
  exact add_step (by unfold D; omega : x + y + c = (c + x + y) % 65536 + D * ((c + x + y) / 65536)) hv

set_option maxRecDepth 100000 in
set_option maxHeartbeats 1600000 in
theorem rplus_any (v0 v1 : Value) (l0 l1 : List Nat) (w : World) (h0 : At w .i64 v0 l0) (h1 : At w .i64 v1 l1) (s0 : Small D l0) (s1 : Small D l1)
    (hl0 : l0.length ≤ 4398046511104) (hl1 : l1.length ≤ 4398046511104) : Calls Tryd.prog 44 #[v0, v1] w (RAt .i64 (dig D (val D l0 + val D l1)) w) := by
  have g0 : ∀ (k : Nat) W, Below w.heap.size w W → Calls Tryd.prog 71 #[v0, .int .i64 (k : Nat)] W fun e w' => e = .returned (.int .i64 (l0[k]?.getD 0 : Nat)) ∧ w' = W := fun k W hb => at_any v0 l0 k W (h0.below hb)
  have g1 : ∀ (k : Nat) W, Below w.heap.size w W → Calls Tryd.prog 71 #[v1, .int .i64 (k : Nat)] W fun e w' => e = .returned (.int .i64 (l1[k]?.getD 0 : Nat)) ∧ w' = W := fun k W hb => at_any v1 l1 k W (h1.below hb)
  have G0 := hid g0; have G1 := hid g1
  clear g0 g1
  obtain ⟨p0, c0, rfl, a1, a2, a3, -⟩ := h0
  obtain ⟨p1, c1, rfl, b1, b2, b3, -⟩ := h1
  unfold maxLen at a2 b2
  go_enter Tryd.func44, Tryd.ntmps44
  go_wp2_with fail
  go_loopw [5, 6, 7] (fun o c i wr => ∃ (k : Nat) (L : List Nat) (c' : Nat), (k ≤ l0.length ∨ k ≤ l1.length ∨ k ≤ l0.length + 1 ∧ k ≤ l1.length + 1 + l0.length ∧ c' = 0 ∨ (k = l1.length + 1 ∧ c' = 0)) ∧ i = .int .i64 (k : Nat) ∧ c = .int .i64 (c' : Nat) ∧ c' ≤ 1 ∧
      Own wr w.heap.size 3 .i64 o L ∧ Hid (L.length = k) ∧ Small D L ∧ Hid (val D L + c' * D ^ k = val D (l0.take k) + val D (l1.take k)) ∧ Below w.heap.size w wr) (fun _ _ i _ => l0.length + l1.length + 2 - (intOf i).toNat)
  case atStart => exact ⟨0, [], 0, Or.inl (Nat.zero_le _), rfl, rfl, by omega, Own.nil _ _ _ _, rfl, small_nil _, by simp [Hid, val], Below.refl _ _⟩
  case round =>
    obtain ⟨k, L, c', hk, rfl, rfl, hc', hown, hLk, hsl, hv, hbel⟩ := hrel
    obtain ⟨x, hx⟩ : ∃ x, x = l0[k]?.getD 0 := ⟨_, rfl⟩
    obtain ⟨y, hy⟩ : ∃ y, y = l1[k]?.getD 0 := ⟨_, rfl⟩
    have x0 : x < 65536 := by rw [hx]; exact small_getD s0 (by decide) k
    have y0 : y < 65536 := by rw [hy]; exact small_getD s1 (by decide) k
    have t0 := G0.out k wr hbel
    have t1 := G1.out k wr hbel
    rw [← hx] at t0
    rw [← hy] at t1
    have hx0 : l0.length ≤ k → x = 0 := fun h => by rw [hx, List.getElem?_eq_none h]; rfl
    have hy0 : l1.length ≤ k → y = 0 := fun h => by rw [hy, List.getElem?_eq_none h]; rfl
    have T0 := hid t0; have T1 := hid t1
    have Hx := hid hx; have Hy := hid hy
    clear t0 t1 hx hy
    have hk2 : k ≤ l0.length + l1.length + 1 := by omega
    by_cases hgo : k < l0.length ∨ k < l1.length ∨ 0 < c'
    · have hn : (k + 1 ≤ l0.length ∨ k + 1 ≤ l1.length ∨ k + 1 ≤ l0.length + 1 ∧ k + 1 ≤ l1.length + 1 + l0.length ∧ (c' + x + y) / 65536 = 0 ∨ (k + 1 = l1.length + 1 ∧ (c' + x + y) / 65536 = 0)) := by omega
      have Hn := hid hn
      clear hn hk hx0 hy0
      rcases (by omega : k < l0.length ∨ (¬ k < l0.length ∧ k < l1.length) ∨ (¬ k < l0.length ∧ ¬ k < l1.length ∧ 0 < c')) with h | ⟨h, h'⟩ | ⟨h, h', h''⟩
      all_goals
        go_wp2_with fail
        refine T0.out.mono ?_
        rintro e w' ⟨rfl, rfl⟩
        go_wp2_with fail
        refine T1.out.mono ?_
        rintro e w' ⟨rfl, rfl⟩
        go_wp2_with (at_builtin; refine wpList_append_at rfl _ _ 53 rfl elemInts w.heap.size _ L rfl (hown.alloc _) _ [(c' + x + y) % 65536] rfl (At.oneI _ _ _ _ _ (by omega)) (by rw [hLk.out]; simp [maxLen]; omega) (by rw [hLk.out]; simp; omega) (by have := hbel.size; simp; omega) ?_; intro v2 w2 ho2 hb2 hs2)
        go_roundw
        case rel => exact ⟨k + 1, L ++ [(c' + x + y) % 65536], (c' + x + y) / 65536, Hn.out, by go_num, by go_num, by omega, ho2, by have := hLk.out; unfold Hid; simp; omega, small_snoc hsl (Nat.mod_lt _ (by decide)),
          rplus_step hLk.out Hx.out Hy.out hv.out, (hbel.trans ((below1 _ _).mono hbel.size)).trans hb2⟩
        case measure => simp [intOf]; omega
    · have hc0 : c' = 0 := by omega
      subst hc0
      have h : ¬ k < l0.length := by omega
      have h' : ¬ k < l1.length := by omega
      have hv' : Hid (strip L = dig D (val D l0 + val D l1)) := by
        have := hv.out
        rw [val_take_ge _ _ _ (by omega), val_take_ge _ _ _ (by omega), Nat.zero_mul, Nat.add_zero] at this
        unfold Hid
        rw [← this, strip_dig D2 hsl]
      clear hgo hk hx0 hy0
      go_wp2_with (go_at_call 70; refine (rtrim_any _ L _ hown.at).mono ?_; rintro e w' ⟨v', rfl, hv'', rfl⟩)
      go_ret
      exact ⟨_, rfl, by rw [← hv'.out]; exact hv'', hbel⟩
end Go.Proofs.YtippcalhcnjghaaDoor
/- whole.trimHalves: what is left is the digits without the noughts at the end. -/
namespace Go.Proofs.YtippcalhcnjghaaDoor
open Go.RowKit Big

set_option maxHeartbeats 400000 in
theorem htrim_val (v : Value) (l : List Nat) (w : World) (h : At w .u32 v l) :
    Calls Tryd.prog 81 #[v] w (fun e w' => e = .returned (cutTo v (strip l).length) ∧ w' = w) := by
  obtain ⟨p, cap, rfl, h1, h2, h3, h4⟩ := h
  unfold maxLen at h2
  go_enter Tryd.func81, Tryd.ntmps81
  go_wp2
  go_loop [0] (fun s => ∃ k : Nat, k ≤ l.length ∧ s = .slice p k cap ∧ strip (l.take k) = strip l) (fun s => lenOf s)
  case atStart => exact ⟨l.length, Nat.le_refl _, rfl, by rw [List.take_length]⟩
  case round =>
    obtain ⟨k, hk, rfl, hs⟩ := hrel
    have Hs := hid hs; clear hs
    by_cases hk0 : 0 < k
    · obtain ⟨b, off, rfl, hb, hc⟩ := h4 (by omega)
      have hck : w.cell? ⟨b, off + (k - 1), none⟩ = some (.int .u32 (l[k-1]'(by omega) : Nat)) := hc (k - 1) (by omega)
      clear hc h4
      go_wp2
      · go_round
        case rel =>
          have hz : ((l[k-1]'(by omega) : Nat) == 0) = true := by simpa using ‹((l[k-1]'(by omega) : Nat) == (0 : Int)) = true›
          refine ⟨k - 1, by omega, rfl, ?_⟩
          rw [← Hs.out, ← strip_take (k := k - 1) (by omega) (by simpa using hz), Nat.sub_add_cancel hk0]
        case measure => simp [lenOf]; omega
      · have hz : ¬ (l[k-1]'(by omega) : Nat) = 0 := by
          have := ‹((l[k-1]'(by omega) : Nat) == (0 : Int)) = false›
          simpa using this
        have hs := strip_take_ne (l := l) (k := k - 1) (by omega) hz
        rw [Nat.sub_add_cancel hk0, Hs.out] at hs
        go_ret
        exact ⟨by rw [hs, List.length_take, Nat.min_eq_left hk]; rfl, rfl⟩
    · obtain rfl : k = 0 := by omega
      have hs : Hid (strip l = []) := by rw [← Hs.out]; rfl
      go_wp2
      go_ret
      exact ⟨by rw [hs.out]; rfl, rfl⟩
theorem htrim_any (v : Value) (l : List Nat) (w : World) (h : At w .u32 v l) : Calls Tryd.prog 81 #[v] w (RSame .u32 (strip l) w) :=
  (htrim_val v l w h).mono fun _ _ ⟨he, hw⟩ => ⟨_, he, by subst hw; exact h.strip, hw.symm⟩
end Go.Proofs.YtippcalhcnjghaaDoor
/- whole.split: words as halves of words. -/
namespace Go.Proofs.YtippcalhcnjghaaDoor
open Go.RowKit Big

theorem At.twoI (w : World) (k : IntKind) (e e' : Int) (x y : Nat) (t : TypeId) (h : e = (x : Int)) (h' : e' = (y : Int)) : At (w.alloc (.cells #[.int k e, .int k e'] t)) k (.slice (some ⟨w.heap.size, 0, none⟩) 2 2) [x, y] := by
  subst h; subst h'
  refine ⟨_, 2, rfl, by simp, by simp [maxLen], fun h => (by cases h), fun _ => ⟨_, _, rfl, by simp, fun i hi => ?_⟩⟩
  have hh := heap_alloc_new w (.cells #[.int k (x : Nat), .int k (y : Nat)] t)
  rcases (by simp at hi; omega : i = 0 ∨ i = 1) with rfl | rfl
  · exact (two_cells hh).1
  · exact (two_cells hh).2.1

theorem split_step {L l : List Nat} {k x : Nat} {hk : k < l.length} (hL : L.length = 2 * k) (hx : x = l[k]) (hv : val H L = val W (l.take k)) :
    val H (L ++ [x % 4294967296, x / 4294967296]) = val W (l.take (k + 1)) := by
  rw [val_append, val_take_succ W l k hk, hv, hL, ← hx, show H ^ (2 * k) = W ^ k by rw [Nat.pow_mul]; rfl]
  have e : val H [x % 4294967296, x / 4294967296] = x := by simp only [val, H]; omega
  rw [e]

set_option maxRecDepth 100000 in
set_option maxHeartbeats 1600000 in
theorem split_any (v : Value) (l : List Nat) (w : World) (h : At w .u64 v l) (hs : Small W l) (hlen : l.length ≤ 1099511627776) :
    Calls Tryd.prog 61 #[v] w (ROwn 67 .u32 (dig H (val W l)) w) := by
  obtain ⟨p, cap, rfl, a1, a2, a3, a4⟩ := h
  unfold maxLen at a2
  go_enter Tryd.func61, Tryd.ntmps61
  go_wp2_with (first
    | (at_make; refine wpList_make_at rfl _ _ 65 rfl elemHalves w.heap.size _ _ _ (2 * l.length) rfl rfl (by first | rfl | omega | (simp; done)) (by omega) (by simp [maxLen]; omega) (Nat.le_refl _) ?_; intro vo w1 ho hb1 hs1 hvo; clear hvo))
  go_loopw [3, 12] (fun o i wr => ∃ (k : Nat) (L : List Nat), k ≤ l.length ∧ i = .int .i64 (k : Nat) ∧ Own wr w.heap.size 67 .u32 o L ∧ Hid (L.length = 2 * k) ∧ Small H L ∧
      Hid (val H L = val W (l.take k)) ∧ Below w.heap.size w wr) (fun _ i _ => l.length - (intOf i).toNat)
  case atStart => exact ⟨0, [], Nat.zero_le _, rfl, ho, rfl, small_nil _, rfl, hb1⟩
  case round =>
    obtain ⟨k, L, hk, rfl, hown, hLk, hsl, hv, hbel⟩ := hrel
    by_cases hkl : k < l.length
    · obtain ⟨b, off, rfl, hbb, hcell⟩ := a4 (by omega)
      have e0 : wr.cell? ⟨b, off + k, none⟩ = some (.int .u64 (l[k] : Nat)) := (hbel.cell (p := ⟨b, off + k, none⟩) hbb).trans (hcell k hkl)
      have x0 := small_get hs k hkl
      obtain ⟨x, hx⟩ : ∃ x, x = l[k] := ⟨_, rfl⟩
      rw [← hx] at e0 x0
      have Hx := hid hx; clear hx hcell a4
      unfold W at x0
      go_wp2_with (at_builtin; refine wpList_append_at rfl _ _ 65 rfl elemHalves w.heap.size _ L rfl (hown.alloc _) _ [x % 4294967296, x / 4294967296] rfl (At.twoI _ _ _ _ _ _ _ (by first | rfl | omega) (by first | rfl | omega)) (by rw [hLk.out]; simp [maxLen]; omega) (by rw [hLk.out]; simp; omega) (by have := hbel.size; simp; omega) ?_; intro v2 w2 ho2 hb2 hs2)
      go_roundw
      case rel => exact ⟨k + 1, L ++ [x % 4294967296, x / 4294967296], by omega, by go_num, ho2, by have := hLk.out; unfold Hid; simp; omega,
        small_append hsl (small_cons (Nat.mod_lt _ (by decide)) (small_cons (by unfold H; omega) (small_nil _))), split_step hLk.out Hx.out hv.out, (hbel.trans ((below1 _ _).mono hbel.size)).trans hb2⟩
      case measure => (simp [intOf] <;> omega)
    · obtain rfl : k = l.length := by omega
      have hv' : Hid (strip L = dig H (val W l)) := by
        have := hv.out
        rw [List.take_length] at this
        unfold Hid
        rw [← this, strip_dig H2 hsl]
      have hst := strip_length L
      clear a4
      have ho' := hown
      obtain ⟨po, co, rfl, -⟩ := id hown.at
      go_wp2_with (go_at_call 81; refine (htrim_val _ L _ hown.at).mono ?_; rintro e w' ⟨rfl, rfl⟩; simp only [cutTo])
      go_ret
      exact ⟨_, rfl, by rw [← hv'.out]; have := ho'.take (strip L).length hst; rwa [← strip_is_take] at this, hbel⟩
end Go.Proofs.YtippcalhcnjghaaDoor
/- whole.divideShort: a quotient by one half, in place. -/
namespace Go.Proofs.YtippcalhcnjghaaDoor
open Go.RowKit Big

theorem Own.shape {w : World} {base : Nat} {e : TypeId} {k : IntKind} {v : Value} {l : List Nat} (h : Own w base e k v l) (hl : 0 < l.length) :
    ∃ g cap, v = .slice (some ⟨g, 0, none⟩) l.length cap ∧ base ≤ g ∧ g < w.heap.size ∧ l.length ≤ cap ∧ cap ≤ maxLen := by
  rcases h.2 with ⟨_, h0⟩ | ⟨g, cap, cur, hv, h1, h2, h3, h4, _⟩
  · omega
  · exact ⟨g, cap, hv, h1, (Array.getElem?_eq_some_iff.1 h2).1, h3, h4⟩
theorem Own.cell {w : World} {base : Nat} {e : TypeId} {k : IntKind} {g n cap : Nat} {l : List Nat} (h : Own w base e k (.slice (some ⟨g, 0, none⟩) n cap) l) (j : Nat) (hj : j < l.length) :
    w.cell? ⟨g, j, none⟩ = some (.int k (l[j] : Nat)) ∧ w.frozen? ⟨g, j, none⟩ = false := by
  have hn : n = l.length := by
    rcases h.2 with ⟨h1, _⟩ | ⟨g, cap, cur, hv, _⟩
    · cases h1
    · cases hv; rfl
  subst hn
  refine ⟨?_, World.ownsRow.frozenAt h j⟩
  rw [World.ownsRow.cellAt h j (by omega)]
  simp [ints, hj]
/-- a store into an owned row -/
theorem Own.set {w : World} {base : Nat} {e : TypeId} {k : IntKind} {g n cap : Nat} {l : List Nat} (h : Own w base e k (.slice (some ⟨g, 0, none⟩) n cap) l) (j x : Nat) :
    Own (w.setCell ⟨g, j, none⟩ (.int k (x : Nat))) base e k (.slice (some ⟨g, 0, none⟩) n cap) (l.set j x) ∧ w.grownBy (w.setCell ⟨g, j, none⟩ (.int k (x : Nat))) (some g) := by
  have hn : n = l.length := by
    rcases h.2 with ⟨h1, _⟩ | ⟨g, cap, cur, hv, _⟩
    · cases h1
    · cases hv; rfl
  subst hn
  have hs := World.ownsRow.stored h j (.int k (x : Nat))
  refine ⟨?_, hs.2⟩
  unfold Own
  rw [List.length_set]
  have e1 : ints k (l.set j x) = (ints k l).set j (.int k (x : Nat)) := by simp [ints, List.map_set]
  rw [e1]; exact hs.1

theorem grown_trans {a b c : World} {row : Option Nat} (h : a.grownBy b row) (k : b.grownBy c row) : a.grownBy c row :=
  ⟨k.os.trans h.os, k.tape.trans h.tape, k.output.trans h.output, Nat.le_trans h.size k.size, fun i hi hne => (k.block i (Nat.lt_of_lt_of_le hi h.size) hne).trans (h.block i hi hne)⟩

theorem or_half (a b : Nat) (ha : a < 4294967296) (hb : b < 4294967296) : bits BinOp.or IntKind.u64 ((a : Int) * 4294967296) (b : Int) = ((a * 4294967296 + b : Nat) : Int) := by
  have h := u64_or_nat (a * 4294967296) b (by omega) (by omega)
  rw [Int.natCast_mul] at h
  rw [show ((a : Int) * 4294967296) = (a : Int) * ((4294967296 : Nat) : Int) by rfl, h]
  have e := Nat.two_pow_add_eq_or_of_lt (i := 32) (b := b) (by simpa using hb) a
  rw [show (2 : Nat) ^ 32 = 4294967296 by rfl, Nat.mul_comm] at e
  rw [← e]
theorem wrap_nat (n : Nat) (h : n < W) : IntKind.u64.wrap (n : Int) = (n : Int) := by
  unfold W at h
  simp only [IntKind.wrap, IntKind.bits, IntKind.signed]
  simp
  omega
theorem set_take {l Q : List Nat} {k : Nat} (hk : k < l.length) (x : Nat) : (l.take (k + 1) ++ Q).set k x = l.take k ++ x :: Q := by
  rw [take_succ' l k hk, List.append_assoc, List.set_append_right _ _ (by simp; omega)]
  have : k - (l.take k).length = 0 := by simp; omega
  rw [this]; rfl
theorem divShort_step {l Q : List Nat} {k x rest d P : Nat} {hk : k < l.length} (hx : x = l[k]) (hP : P = rest * 4294967296 + x)
    (hv : val H l = val H (l.take (k + 1)) + H ^ (k + 1) * (d * val H Q + rest)) : val H l = val H (l.take k) + H ^ k * (d * val H (P / d :: Q) + P % d) := by
  rw [hv, val_take_succ H l k hk, ← hx, Nat.pow_succ, val_cons]
  have e : P = d * (P / d) + P % d := (Nat.div_add_mod P d).symm
  have e2 : d * (P / d) + P % d = rest * H + x := by rw [← e, hP]; rfl
  generalize P / d = q at *
  generalize P % d = r at *
  have : H ^ k * (d * (q + H * val H Q) + r) = H ^ k * (rest * H + x) + H ^ k * (d * (H * val H Q)) := by rw [← e2]; grind
  rw [this]; grind
theorem div_lt_half {P d rest x : Nat} (hP : P = rest * 4294967296 + x) (hr : rest < d) (hx : x < 4294967296) : P / d < 4294967296 := by
  rw [Nat.div_lt_iff_lt_mul (by omega)]
  have : (rest + 1) * 4294967296 ≤ d * 4294967296 := Nat.mul_le_mul_right _ hr
  rw [Nat.mul_comm 4294967296 d]
  omega

set_option maxRecDepth 100000 in
set_option maxHeartbeats 1600000 in
theorem divideShort_any (B : Nat) (v : Value) (l : List Nat) (d : Nat) (w : World) (h : Own w B 67 .u32 v l) (hs : Small H l) (hd0 : 0 < d) (hd : d < H) :
    Calls Tryd.prog 80 #[v, .int .u32 (d : Nat)] w (fun e w' => e = .returned (.tuple #[cutTo v (sz H (val H l / d)), .int .u32 (val H l % d : Nat)]) ∧
      Own w' B 67 .u32 (cutTo v (sz H (val H l / d))) (dig H (val H l / d)) ∧ w.grownBy w' v.ownBlock) := by
  by_cases hl : 0 < l.length
  · obtain ⟨g, cap, rfl, hBg, hg, hc1, hc2⟩ := h.shape hl
    unfold maxLen at hc2
    unfold H at hd
    go_enter Tryd.func80, Tryd.ntmps80
    go_wp2_with fail
    go_loopw [6, 7] (fun r i wr => ∃ (k rest : Nat) (Q : List Nat), k ≤ l.length ∧ i = .int .i64 ((k : Int) - 1) ∧ r = .int .u64 (rest : Nat) ∧ rest < d ∧ Hid (k + Q.length = l.length) ∧ Small H Q ∧
        Own wr B 67 .u32 (.slice (some ⟨g, 0, none⟩) l.length cap) (l.take k ++ Q) ∧ Hid (val H l = val H (l.take k) + H ^ k * (d * val H Q + rest)) ∧ w.grownBy wr (some g)) (fun _ i _ => (intOf i + 1).toNat)
    case atStart => exact ⟨l.length, 0, [], Nat.le_refl _, rfl, rfl, hd0, rfl, small_nil _, by simpa using h, by unfold Hid; simp [val], World.grownBy.refl _ _⟩
    case round =>
      obtain ⟨k, rest, Q, hk, rfl, rfl, hr, hQ, hsQ, hown, hv, hgr⟩ := hrel
      by_cases hk0 : 0 < k
      · obtain ⟨k, rfl⟩ : ∃ k', k = k' + 1 := ⟨k - 1, by omega⟩
        have hkl : k < (l.take (k + 1) ++ Q).length := by simp; omega
        obtain ⟨c0, f0⟩ := hown.cell k hkl
        have ex : (l.take (k + 1) ++ Q)[k] = l[k]'(by omega) := by rw [List.getElem_append_left (by simp; omega), List.getElem_take]
        have x0 := small_get hs k (by omega)
        rw [ex] at c0
        obtain ⟨x, hx⟩ : ∃ x, x = l[k]'(by omega) := ⟨_, rfl⟩
        rw [← hx] at c0 x0
        have Hx := hid hx
        unfold H at x0
        clear hx ex
        go_wp2
        obtain ⟨P, hP⟩ : ∃ P, P = rest * 4294967296 + x := ⟨_, rfl⟩
        have hor := or_half rest x (by omega) x0
        rw [← hP] at hor
        have q0 := div_lt_half hP hr x0
        have r0 : P % d < d := Nat.mod_lt _ hd0
        have hm : (bits BinOp.or IntKind.u64 ((rest : Int) * 4294967296) (x : Int)).tmod (d : Int) = ((P % d : Nat) : Int) := by rw [hor]; rfl
        have hd' : IntKind.u64.wrap ((bits BinOp.or IntKind.u64 ((rest : Int) * 4294967296) (x : Int)).tdiv (d : Int)) % 4294967296 = ((P / d : Nat) : Int) := by
          rw [hor, show ((P : Nat) : Int).tdiv (d : Int) = ((P / d : Nat) : Int) from rfl, wrap_nat _ (by unfold W; omega)]
          generalize P / d = qq at *
          omega
        have HP := hid hP
        clear hP hor
        obtain ⟨q, hq⟩ : ∃ q, q = P / d := ⟨_, rfl⟩
        obtain ⟨r, hr'⟩ : ∃ r, r = P % d := ⟨_, rfl⟩
        rw [← hq] at q0 hd'
        rw [← hr'] at r0 hm
        have Hq := hid hq; have Hr := hid hr'; have Hm := hid hm; have Hd := hid hd'
        clear hq hr' hm hd'
        go_wp2
        rw [Hm.out, Hd.out]
        have hset := hown.set k q
        have hlist := set_take (Q := Q) (show k < l.length by omega) q
        rw [hlist] at hset
        go_roundw
        case rel => exact ⟨k, r, q :: Q, by omega, rfl, rfl, r0, by have := hQ.out; unfold Hid; simp; omega, small_cons q0 hsQ, hset.1,
          by have := divShort_step (hk := by omega) Hx.out HP.out hv.out; rw [← Hq.out, ← Hr.out] at this; exact this, grown_trans hgr hset.2⟩
        case measure => (simp [intOf] <;> omega)
      · obtain rfl : k = 0 := by omega
        have hv' : val H l = d * val H Q + rest := by have := hv.out; simpa [val] using this
        have e1 : val H l / d = val H Q := by
          rw [hv', Nat.mul_add_div hd0, Nat.div_eq_of_lt hr, Nat.add_zero]
        have e2 : val H l % d = rest := by rw [hv', Nat.mul_add_mod, Nat.mod_eq_of_lt hr]
        rw [List.take_zero, List.nil_append] at hown
        have hst : Hid (strip Q = dig H (val H l / d)) := by unfold Hid; rw [e1, strip_dig H2 hsQ]
        have hsz : Hid ((strip Q).length = sz H (val H l / d)) := by unfold Hid sz; rw [hst.out]
        have E2 := hid e2
        have ht := htrim_val _ Q wr hown.at
        have Ht := hid ht
        have hstl := strip_length Q
        clear e1 e2 hv' hv ht
        have hrest : rest < 4294967296 := by omega
        go_wp2_with (go_at_call 81; refine Ht.out.mono ?_; rintro e w' ⟨rfl, rfl⟩; simp only [cutTo])
        go_ret2
        refine ⟨?_, ?_, hgr⟩
        · rw [← hsz.out, E2.out]; rfl
        · rw [← hsz.out, ← hst.out]
          have := hown.take (strip Q).length hstl
          rwa [← strip_is_take] at this
  · have hl0 : l = [] := List.eq_nil_of_length_eq_zero (by omega)
    subst hl0
    have ho := hid h
    obtain ⟨p, c, rfl, b1, b2, b3, -⟩ := h.at
    have ht := htrim_val _ [] w h.at
    have Ht := hid ht
    clear ht h
    have hstrip : (strip []).length = 0 := rfl
    rw [hstrip] at Ht
    clear hstrip
    simp only [List.length_nil] at *
    go_enter Tryd.func80, Tryd.ntmps80
    go_wp2_with fail
    refine wp_loop_rounds 1 ?_
    rw [rounds_succ]
    go_wp2_with (go_at_call 81; refine Ht.out.mono ?_; rintro e w' ⟨rfl, rfl⟩; simp only [cutTo])
    go_ret2
    have e1 : val H [] / d = 0 := by simp [val]
    have e2 : val H [] % d = 0 := by simp [val]
    refine ⟨?_, ?_, World.grownBy.refl _ _⟩
    · rw [e1, e2]; rfl
    · rw [e1]; exact ho.out
end Go.Proofs.YtippcalhcnjghaaDoor
/- whole.join: halves of words as words. -/
namespace Go.Proofs.YtippcalhcnjghaaDoor
open Go.RowKit Big

theorem half_or (a b : Nat) (ha : a < 4294967296) (hb : b < 4294967296) : bits BinOp.or IntKind.u64 (b : Int) ((a : Int) * 4294967296) = ((a * 4294967296 + b : Nat) : Int) := by
  have h := u64_or_nat b (a * 4294967296) (by omega) (by omega)
  rw [Int.natCast_mul] at h
  rw [show ((a : Int) * 4294967296) = (a : Int) * ((4294967296 : Nat) : Int) by rfl, h]
  have e := Nat.two_pow_add_eq_or_of_lt (i := 32) (b := b) (by simpa using hb) a
  rw [show (2 : Nat) ^ 32 = 4294967296 by rfl, Nat.mul_comm] at e
  rw [e, Nat.or_comm]

theorem join_step {L l : List Nat} {j x y : Nat} (hL : L.length = j) (hx : x = l[2 * j]?.getD 0) (hy : y = l[2 * j + 1]?.getD 0) (hv : val W L = val H (l.take (2 * j))) :
    val W (L ++ [y * 4294967296 + x]) = val H (l.take (2 * j + 2)) := by
  rw [show 2 * j + 2 = 2 * j + 1 + 1 by rfl, val_take_getD, val_take_getD, val_snoc, hv, hL, ← hx, ← hy, Nat.pow_succ, show H ^ (2 * j) = W ^ j by rw [Nat.pow_mul]; rfl]
  have : W ^ j * (y * 4294967296 + x) = W ^ j * x + W ^ j * H * y := by unfold H; grind
  rw [this]; omega

set_option maxRecDepth 100000 in
set_option maxHeartbeats 1600000 in
theorem join_any (v : Value) (n : Nat) (w : World) (h : At w .u32 v (dig H n)) (hlen : sz H n ≤ 4398046511104) :
    Calls Tryd.prog 59 #[v] w (ROwn 59 .u64 (dig W n) w) := by
  have hs := small_dig H2 n
  have hvn := val_dig H2 n
  have hl : (dig H n).length = sz H n := rfl
  have hp := fun h0 => pow_sz_le H2 (n := n) h0
  have hz : n = 0 → (dig H n).length = 0 := fun e => by rw [e]; rfl
  generalize sz H n = N at *
  generalize dig H n = l at *
  have Hvn := hid hvn; have Hp := hid hp; have Hz := hid hz
  clear hvn hp hz
  obtain ⟨p, cap, rfl, a1, a2, a3, a4⟩ := h
  unfold maxLen at a2
  go_enter Tryd.func59, Tryd.ntmps59
  go_wp2_with (first
    | (at_make; refine wpList_make_at rfl _ _ 23 rfl elemNat w.heap.size _ _ _ ((l.length + 1) / 2) rfl rfl (by first | rfl | omega | (simp; done)) (by omega) (by simp [maxLen]; omega) (Nat.le_refl _) ?_; intro vo w1 ho hb1 hs1 hvo; clear hvo))
  go_loopw [3, 4] (fun o i wr => ∃ (j k : Nat) (L : List Nat), Hid (k = 2 * j) ∧ k ≤ l.length + 1 ∧ i = .int .i64 (k : Nat) ∧ Own wr w.heap.size 59 .u64 o L ∧ Hid (L.length = j) ∧ j ≤ k ∧ Small W L ∧
      Hid (val W L = val H (l.take k)) ∧ Below w.heap.size w wr) (fun _ i _ => l.length + 2 - (intOf i).toNat)
  case atStart => exact ⟨0, 0, [], rfl, by omega, rfl, ho, rfl, by omega, small_nil _, rfl, hb1⟩
  case round =>
    obtain ⟨j, k, L, hkj, hk, rfl, hown, hLj, hjk, hsl, hv, hbel⟩ := hrel
    by_cases hkl : k < l.length
    · obtain ⟨b, off, rfl, hbb, hcell⟩ := a4 (by omega)
      have e0 : wr.cell? ⟨b, off + k, none⟩ = some (.int .u32 (l[k] : Nat)) := (hbel.cell (p := ⟨b, off + k, none⟩) hbb).trans (hcell k hkl)
      have x0 := small_get hs k hkl
      obtain ⟨x, hx⟩ : ∃ x, x = l[k] := ⟨_, rfl⟩
      rw [← hx] at e0 x0
      have Hx : Hid (x = l[2 * j]?.getD 0) := by unfold Hid; rw [← hkj.out]; simp [hkl, hx]
      clear hx
      unfold H at x0
      by_cases hk1 : k + 1 < l.length
      · have e1 : wr.cell? ⟨b, off + (k + 1), none⟩ = some (.int .u32 (l[k + 1] : Nat)) := (hbel.cell (p := ⟨b, off + (k + 1), none⟩) hbb).trans (hcell (k + 1) hk1)
        have y0 := small_get hs (k + 1) hk1
        obtain ⟨y, hy⟩ : ∃ y, y = l[k + 1] := ⟨_, rfl⟩
        rw [← hy] at e1 y0
        have Hy : Hid (y = l[2 * j + 1]?.getD 0) := by unfold Hid; rw [← hkj.out]; simp [hk1, hy]
        clear hy hcell a4
        unfold H at y0
        have hor := half_or y x y0 x0
        go_wp2_with (at_builtin; refine wpList_append_at rfl _ _ 23 rfl elemNat w.heap.size _ L rfl (hown.alloc _) _ [y * 4294967296 + x] rfl (At.oneI _ _ _ _ _ (by first | exact hor | (rw [hor]; done) | omega)) (by rw [hLj.out]; simp [maxLen]; omega) (by rw [hLj.out]; simp; omega) (by have := hbel.size; simp; omega) ?_; intro v2 w2 ho2 hb2 hs2)
        go_roundw
        case rel => exact ⟨j + 1, k + 2, L ++ [y * 4294967296 + x], by have := hkj.out; unfold Hid; omega, by omega, by go_num, ho2, by have := hLj.out; unfold Hid; simp; omega, by omega, small_snoc hsl (by unfold W; omega),
          by have := join_step hLj.out Hx.out Hy.out (by rw [← hkj.out]; exact hv.out); rw [← hkj.out] at this; exact this, (hbel.trans ((below1 _ _).mono hbel.size)).trans hb2⟩
        case measure => (simp [intOf] <;> omega)
      · have Hy : Hid (0 = l[2 * j + 1]?.getD 0) := by unfold Hid; rw [← hkj.out, List.getElem?_eq_none (by omega)]; rfl
        clear hcell a4
        go_wp2_with (at_builtin; refine wpList_append_at rfl _ _ 23 rfl elemNat w.heap.size _ L rfl (hown.alloc _) _ [0 * 4294967296 + x] rfl (At.oneI _ _ _ _ _ (by omega)) (by rw [hLj.out]; simp [maxLen]; omega) (by rw [hLj.out]; simp; omega) (by have := hbel.size; simp; omega) ?_; intro v2 w2 ho2 hb2 hs2)
        go_roundw
        case rel => exact ⟨j + 1, k + 2, L ++ [0 * 4294967296 + x], by have := hkj.out; unfold Hid; omega, by omega, by go_num, ho2, by have := hLj.out; unfold Hid; simp; omega, by omega, small_snoc hsl (by unfold W; omega),
          by have := join_step hLj.out Hx.out Hy.out (by rw [← hkj.out]; exact hv.out); rw [← hkj.out] at this; exact this, (hbel.trans ((below1 _ _).mono hbel.size)).trans hb2⟩
        case measure => (simp [intOf] <;> omega)
    · have hv' : Hid (L = dig W n) := by
        have e := hv.out
        rw [val_take_ge _ _ _ (by omega), Hvn.out] at e
        unfold Hid
        refine canon_val W2 hsl e ?_
        by_cases hj0 : j = 0
        · left; exact List.eq_nil_of_length_eq_zero (by rw [hLj.out, hj0])
        · right
          have hpos : 0 < n := by
            rcases Nat.eq_zero_or_pos n with h0 | h0
            · exfalso
              have := hkj.out
              have := Hz.out h0
              omega
            · exact h0
          have hp := Hp.out hpos
          rw [hLj.out]
          refine Nat.le_trans ?_ hp
          rw [show W ^ (j - 1) = H ^ (2 * (j - 1)) by rw [Nat.pow_mul]; rfl]
          exact Nat.pow_le_pow_right (by decide) (by have := hkj.out; omega)
      clear a4 hkj hv Hp Hvn
      go_wp2
      go_ret
      exact ⟨_, rfl, by rw [← hv'.out]; exact hown, hbel⟩
end Go.Proofs.YtippcalhcnjghaaDoor
/- whole.timesPlus: halves so many times as great, and more, in place. -/
namespace Go.Proofs.YtippcalhcnjghaaDoor
open Go.RowKit Big

theorem set_drop {l Q : List Nat} {k : Nat} (hQ : Q.length = k) (hk : k < l.length) (x : Nat) : (Q ++ l.drop k).set k x = (Q ++ [x]) ++ l.drop (k + 1) := by
  rw [List.set_append_right _ _ (by omega), hQ, Nat.sub_self, List.drop_eq_getElem_cons hk]
  simp only [List.set_cons_zero, List.append_assoc, List.singleton_append]
theorem timesPlus_step {l Q : List Nat} {k x f m c P : Nat} {hk : k < l.length} (hQ : Q.length = k) (hx : x = l[k]) (hP : P = x * f + c) (hv : val H Q + c * H ^ k = f * val H (l.take k) + m) :
    val H (Q ++ [P % 4294967296]) + P / 4294967296 * H ^ (k + 1) = f * val H (l.take (k + 1)) + m := by
  rw [val_snoc, val_take_succ H l k hk, hQ, ← hx, Nat.pow_succ]
  have e : P = P % 4294967296 + H * (P / 4294967296) := by unfold H; omega
  have e2 : P % 4294967296 + H * (P / 4294967296) = x * f + c := by rw [← e, hP]
  generalize P % 4294967296 = r at *
  generalize P / 4294967296 = q at *
  have : H ^ k * (r + H * q) = H ^ k * (x * f + c) := by rw [e2]
  grind
theorem prod_lt {x f c : Nat} (hx : x < 4294967296) (hf : f < 4294967296) (hc : c < 4294967296) : x * f ≤ 18446744065119617025 ∧ x * f + c < 18446744073709551616 ∧ (x * f + c) / 4294967296 < 4294967296 := by
  have h : x * f ≤ 4294967295 * 4294967295 := Nat.mul_le_mul (by omega) (by omega)
  omega

set_option maxRecDepth 100000 in
set_option maxHeartbeats 1600000 in
theorem timesPlus_any (B : Nat) (v : Value) (n f m : Nat) (w : World) (h : Own w B 67 .u32 v (dig H n)) (hf : f < H) (hf0 : 0 < f) (hm : m < H) (hlen : sz H n ≤ 4398046511104) (hB : B ≤ w.heap.size) :
    Calls Tryd.prog 58 #[v, .int .u32 (f : Nat), .int .u32 (m : Nat)] w (fun e w' => ∃ v', e = .returned v' ∧ Own w' B 67 .u32 v' (dig H (n * f + m)) ∧ Below B w w') := by
  have hs := small_dig H2 n
  have hvn := hid (val_dig H2 n)
  have hl : (dig H n).length ≤ 4398046511104 := hlen
  have hp := hid (fun h0 => pow_sz_le H2 (n := n) h0)
  have hz : n = 0 → (dig H n).length = 0 := fun e => by rw [e]; rfl
  have hnz : n ≠ 0 → 0 < (dig H n).length := fun e => Nat.pos_of_ne_zero fun e' => e ((sz_eq_zero H2).1 e')
  have hN : Hid (sz H n = (dig H n).length) := rfl
  generalize dig H n = l at *
  have Hz := hid hz; have Hnz := hid hnz
  clear hz hnz
  unfold H at hf hm
  by_cases h0 : 0 < l.length
  · obtain ⟨g, cap, rfl, hBg, hg, hc1, hc2⟩ := h.shape h0
    unfold maxLen at hc2
    go_enter Tryd.func58, Tryd.ntmps58
    go_wp2_with fail
    go_loopw [7, 15] (fun c i wr => ∃ (k c' : Nat) (Q : List Nat), k ≤ l.length ∧ i = .int .i64 (k : Nat) ∧ c = .int .u64 (c' : Nat) ∧ c' < 4294967296 ∧ Hid (Q.length = k) ∧ Small H Q ∧
        Own wr B 67 .u32 (.slice (some ⟨g, 0, none⟩) l.length cap) (Q ++ l.drop k) ∧ Hid (val H Q + c' * H ^ k = f * val H (l.take k) + m) ∧ Below B w wr ∧ w.heap.size ≤ wr.heap.size) (fun _ i _ => l.length - (intOf i).toNat)
    case atStart => exact ⟨0, m, [], Nat.zero_le _, rfl, rfl, hm, rfl, small_nil _, h, by unfold Hid; simp [val], Below.refl _ _, Nat.le_refl _⟩
    case round =>
      obtain ⟨k, c', Q, hk, rfl, rfl, hc', hQ, hsQ, hown, hv, hbel, hsz⟩ := hrel
      by_cases hkl : k < l.length
      · have hkl' : k < (Q ++ l.drop k).length := by simp; have := hQ.out; omega
        obtain ⟨cc0, f0⟩ := hown.cell k hkl'
        have ex : (Q ++ l.drop k)[k] = l[k] := by
          rw [List.getElem_append_right (by have := hQ.out; omega)]
          simp [hQ.out]
        have x0 := small_get hs k hkl
        rw [ex] at cc0
        obtain ⟨x, hx⟩ : ∃ x, x = l[k] := ⟨_, rfl⟩
        rw [← hx] at cc0 x0
        have Hx := hid hx
        unfold H at x0
        clear hx ex
        obtain ⟨p1, p2, p3⟩ := prod_lt x0 hf hc'
        obtain ⟨P, hP⟩ : ∃ P, P = x * f + c' := ⟨_, rfl⟩
        rw [← hP] at p2 p3
        have q1 : (x : Int) * (f : Int) ≤ 18446744065119617025 := by have : ((x * f : Nat) : Int) ≤ 18446744065119617025 := by omega
                                                                     rwa [Int.natCast_mul] at this
        have q2 : 0 ≤ (x : Int) * (f : Int) := by rw [← Int.natCast_mul]; omega
        have q3 : (x : Int) * (f : Int) + (c' : Int) = (P : Int) := by rw [hP]; simp
        have HP := hid hP; have Q3 := hid q3
        clear hP q3
        go_wp2
        have r1 : ((x : Int) * (f : Int) + (c' : Int)) / 4294967296 = ((P / 4294967296 : Nat) : Int) := by rw [Q3.out]; omega
        have r2 : ((x : Int) * (f : Int) + (c' : Int)) % 4294967296 = ((P % 4294967296 : Nat) : Int) := by rw [Q3.out]; omega
        rw [r1, r2]
        have hset := hown.set k (P % 4294967296)
        rw [set_drop hQ.out hkl] at hset
        go_roundw
        case rel => exact ⟨k + 1, P / 4294967296, Q ++ [P % 4294967296], by omega, by go_num, rfl, p3, by have := hQ.out; unfold Hid; simp; omega, small_snoc hsQ (Nat.mod_lt _ (by decide)), hset.1,
          timesPlus_step hQ.out Hx.out HP.out hv.out, hbel.setCell (p := ⟨g, k, none⟩) hBg _, by simpa [World.setCell] using hsz⟩
        case measure => (simp [intOf] <;> omega)
      · obtain rfl : k = l.length := by omega
        rw [List.drop_length, List.append_nil] at hown
        have hv' : val H Q + c' * H ^ l.length = f * n + m := by
          have := hv.out
          rwa [List.take_length, hvn.out] at this
        have hn0 : 0 < n := Nat.pos_of_ne_zero fun e => by have := Hz.out e; omega
        have hpn := hp.out hn0
        have hge : n ≤ f * n + m := Nat.le_trans (Nat.le_mul_of_pos_left n hf0) (Nat.le_add_right _ _)
        have hQl := hQ.out
        have Hv := hid hv'; have Hge := hid hge; have Hpn := hid hpn
        clear hv hv' hge hpn hn0 hQl
        have hcan : c' = 0 → Q = dig H (n * f + m) := fun e => by
          have := Hv.out
          rw [e, Nat.zero_mul, Nat.add_zero, Nat.mul_comm] at this
          refine canon_val H2 hsQ this (Or.inr ?_)
          rw [hQ.out, ← hN.out]
          rw [Nat.mul_comm]
          exact Nat.le_trans Hpn.out Hge.out
        have hcan1 : c' ≠ 0 → Q ++ [c'] = dig H (n * f + m) := fun e => by
          have := Hv.out
          refine canon_val H2 (small_snoc hsQ (show c' < 4294967296 from hc')) (by rw [val_snoc, hQ.out, Nat.mul_comm n f, ← this, Nat.mul_comm c']) (Or.inr ?_)
          rw [List.length_append, hQ.out, List.length_singleton, Nat.add_sub_cancel, Nat.mul_comm n f, ← this]
          have : 1 * H ^ l.length ≤ c' * H ^ l.length := Nat.mul_le_mul_right _ (by omega)
          omega
        have Hcan := hid hcan; have Hcan1 := hid hcan1
        clear hcan hcan1
        by_cases hc0 : c' = 0
        · have e := hid (Hcan.out hc0)
          subst hc0
          go_wp2
          go_ret
          exact ⟨_, rfl, by rw [← e.out]; exact hown, hbel⟩
        · have e := hid (Hcan1.out hc0)
          have hb : ((c' : Int) != 0) = true := bne_iff_ne.2 (by omega)
          go_wp2_with (at_builtin; refine wpList_append_at rfl _ _ 65 rfl elemHalves B _ Q rfl (hown.alloc _) _ [c'] rfl (At.oneI _ _ _ _ _ (by first | rfl | omega)) (by rw [hQ.out]; simp [maxLen]; omega) (by rw [hQ.out]; simp; omega) (by simp; omega) ?_; intro v2 w2 ho2 hb2 hs2)
          go_ret
          exact ⟨_, rfl, by rw [← e.out]; exact ho2, (hbel.alloc (by omega) _).trans hb2⟩
  · have hl0 : l = [] := List.eq_nil_of_length_eq_zero (by omega)
    have hn0 : n = 0 := by
      rcases Nat.eq_zero_or_pos n with h | h
      · exact h
      · exact absurd (Hnz.out (by omega)) h0
    have he : Hid (dig H (n * f + m) = if m = 0 then [] else [m]) := by
      unfold Hid
      rw [hn0, Nat.zero_mul, Nat.zero_add]
      by_cases hm0 : m = 0
      · subst hm0; rfl
      · rw [if_neg hm0, dig_one H2 (by omega) hm]
    subst hl0
    have ho := hid h
    obtain ⟨p, c, rfl, b1, b2, b3, -⟩ := h.at
    clear hn0 hN hp hvn Hz Hnz h0
    simp only [List.length_nil] at *
    by_cases hm0 : m = 0
    · rw [if_pos hm0] at he
      subst hm0
      go_enter Tryd.func58, Tryd.ntmps58
      go_wp2_with fail
      refine wp_loop_rounds 1 ?_
      rw [rounds_succ]
      go_wp2
      go_ret
      exact ⟨_, rfl, by rw [he.out]; exact ho.out, Below.refl _ _⟩
    · rw [if_neg hm0] at he
      have hb : ((m : Int) != 0) = true := bne_iff_ne.2 (by omega)
      go_enter Tryd.func58, Tryd.ntmps58
      go_wp2_with fail
      refine wp_loop_rounds 1 ?_
      rw [rounds_succ]
      go_wp2_with (at_builtin; refine wpList_append_at rfl _ _ 65 rfl elemHalves B _ [] rfl (ho.out.alloc _) _ [m] rfl (At.oneI _ _ _ _ _ (by first | rfl | omega)) (by simp [maxLen]) (by simp) (by simp; omega) ?_; intro v2 w2 ho2 hb2 hs2)
      go_ret
      exact ⟨_, rfl, by rw [he.out]; simpa using ho2, ((Below.refl _ _).alloc hB _).trans hb2⟩
end Go.Proofs.YtippcalhcnjghaaDoor
