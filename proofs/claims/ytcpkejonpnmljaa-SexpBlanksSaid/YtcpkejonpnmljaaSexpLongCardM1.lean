/- Texts put together: SxMath, Big, Mem, Shelf, SxLeaf, SxLead, SxWords, SxKinds, SxRest, SxState, Inv, Facts. -/
import Derived.Test.YtcpkejonpnmljaaProg
import Derived.Lib.Bytealg
import Derived.WalkKit
import Derived.WalkSpells
import Derived.Deep.QuietTactic
import Derived.BigQuiet
import Derived.WalkSmall
import Derived.Shelf.Strings.Builder1
import Derived.Shelf.Small.Strs
import Derived.Shelf.Strings.BuilderF
import Derived.Shelf.Strings.BuilderK
import Derived.Shelf.LaysM
import Derived.Shelf.Strconv.Clone
import Derived.Shelf.Strings.Search1
import Derived.Lib.Hide
import Derived.LoopTactic
import Derived.Lib.Strings
import Derived.Laws.OwnMore
import Derived.Deep.AppendLies
import Derived.Deep.Onto
import Derived.Deep.RegionHeld3
/- Signs, by their sorts: plain facts on bytes and lists of bytes. -/
namespace Go.Proofs.Ytcpkejonpnmljaa
open Go.RowKit

/-- the signs of a symbol beside letters and digits -/
def sxMarks : List UInt8 := [126, 33, 64, 36, 37, 94, 38, 42, 95, 45, 43, 61, 60, 62, 46, 63, 47]
def sxLet (n : Nat) : Bool := (decide (97 ≤ n) && decide (n ≤ 122)) || (decide (65 ≤ n) && decide (n ≤ 90)) || decide (0 ≤ Lib.indexByte sxMarks n.toUInt8)
/-- the sort of a byte -/
def sxSort (n : Nat) : Nat :=
  if sxLet n then 3 else if 48 ≤ n ∧ n ≤ 57 then 4 else if n = 32 ∨ n = 9 ∨ n = 10 ∨ n = 13 then 1 else if n = 59 then 2 else if n = 124 then 5 else if n = 58 then 6 else if n = 40 then 7 else if n = 41 then 8 else 0
def sxSign (n : Nat) : Bool := sxSort n == 3 || sxSort n == 4
def sxDig (n : Nat) : Bool := sxSort n == 4
def sxQuo (n : Nat) : Bool := sxSort n == 1 || (decide (32 ≤ n) && decide (n ≤ 126) && (n != 124) && (n != 92))
theorem sxSort_lt (n : Nat) : sxSort n < 9 := by unfold sxSort; (repeat' split) <;> omega
/-- how many bytes at the front are of one kind -/
def sxLead (p : Nat → Bool) (s : ByteArray) : Nat := (s.data.toList.takeWhile fun c => p c.toNat).length
def sxAll (p : Nat → Bool) (s : ByteArray) : Bool := s.data.toList.all fun c => p c.toNat
theorem sxLead_le (p : Nat → Bool) (s : ByteArray) : sxLead p s ≤ s.size := by
  have := (List.takeWhile_prefix (fun c : UInt8 => p c.toNat) (l := s.data.toList)).length_le
  simpa [sxLead] using this
theorem takeWhile_stop {α : Type} (p : α → Bool) (l : List α) (k : Nat) (hk : k ≤ l.length) (h : ∀ j (hj : j < l.length), j < k → p l[j] = true) (hs : ∀ (hj : k < l.length), p l[k] = false) : (l.takeWhile p).length = k := by
  induction l generalizing k with
  | nil => simp at hk; simp [hk]
  | cons a l ih =>
    cases k with
    | zero =>
      have := hs (by simp)
      simp only [List.getElem_cons_zero] at this
      simp [this]
    | succ k =>
      have h0 := h 0 (by simp) (by omega)
      simp only [List.getElem_cons_zero] at h0
      rw [List.takeWhile_cons, if_pos h0, List.length_cons]
      rw [ih k (by simpa using hk) (fun j hj hjk => by have := h (j + 1) (by simpa using hj) (by omega); simpa using this) (fun hj => by have := hs (by simpa using hj); simpa using this)]
theorem sxLead_stop (p : Nat → Bool) (s : ByteArray) (k : Nat) (hk : k ≤ s.size) (h : ∀ j (hj : j < s.size), j < k → p (s[j]'hj).toNat = true) (hs : ∀ (hj : k < s.size), p (s[k]'hj).toNat = false) : sxLead p s = k :=
  takeWhile_stop _ _ k (by simpa using hk) (fun j hj hjk => h j (by simpa using hj) hjk) (fun hj => hs (by simpa using hj))
theorem sxAll_lead (p : Nat → Bool) (s : ByteArray) : sxAll p s = decide (sxLead p s = s.size) := by
  unfold sxAll sxLead
  have hl : s.data.toList.length = s.size := Array.length_toList
  rw [← hl]
  induction s.data.toList with
  | nil => simp
  | cons a l ih =>
    rw [List.all_cons, ih, List.takeWhile_cons]
    by_cases h : p a.toNat = true
    · rw [if_pos h, h]; simp
    · rw [if_neg h]; simp [h]
def sxPlain (s : ByteArray) : Bool := match s.data.toList with | [] => false | c :: _ => sxSort c.toNat == 3 && sxAll sxSign s
def sxNum (s : ByteArray) : Bool := match s.data.toList with | [] => false | c :: l => (c.toNat == 48 && l.isEmpty) || (c.toNat != 48 && sxAll sxDig s)
def sxKey (s : ByteArray) : Bool := !s.data.toList.isEmpty && sxAll sxSign s
end Go.Proofs.Ytcpkejonpnmljaa
/- Plain mathematics of digit lists: the value of a list of digits, its canonical form, and how sums, differences, products and quotients of digits carry. No program is named here. -/
namespace Go.Proofs.Ytcpkejonpnmljaa.Big

/-- the value of digits, the lowest first -/
def val (B : Nat) : List Nat → Nat
  | [] => 0
  | x :: xs => x + B * val B xs

/-- all digits are below the base -/
def Small (B : Nat) (l : List Nat) : Prop := ∀ x ∈ l, x < B

/-- the digits of a number, with fuel -/
def dg (B : Nat) : Nat → Nat → List Nat
  | 0, _ => []
  | f + 1, n => if n = 0 then [] else (n % B) :: dg B f (n / B)
/-- the digits of a number, none of them above the highest that isn't 0 -/
def dig (B n : Nat) : List Nat := dg B n n
/-- how many digits -/
def sz (B n : Nat) : Nat := (dig B n).length

theorem val_nil (B : Nat) : val B [] = 0 := rfl
theorem val_cons (B x : Nat) (l : List Nat) : val B (x :: l) = x + B * val B l := rfl
theorem val_append (B : Nat) (l m : List Nat) : val B (l ++ m) = val B l + B ^ l.length * val B m := by
  induction l with
  | nil => simp [val]
  | cons x l ih => simp only [List.cons_append, val, ih, List.length_cons, Nat.pow_succ]; grind
theorem val_snoc (B : Nat) (l : List Nat) (x : Nat) : val B (l ++ [x]) = val B l + B ^ l.length * x := by
  rw [val_append]; simp [val]
theorem small_nil (B : Nat) : Small B [] := by intro x hx; cases hx
theorem small_cons {B x : Nat} {l : List Nat} (h : x < B) (hl : Small B l) : Small B (x :: l) := by
  intro y hy; cases hy with
  | head => exact h
  | tail _ hy => exact hl y hy
theorem small_append {B : Nat} {l m : List Nat} (hl : Small B l) (hm : Small B m) : Small B (l ++ m) := by
  intro y hy; rcases List.mem_append.1 hy with h | h
  · exact hl y h
  · exact hm y h
theorem small_snoc {B : Nat} {l : List Nat} {x : Nat} (hl : Small B l) (h : x < B) : Small B (l ++ [x]) :=
  small_append hl (small_cons h (small_nil B))
theorem small_left {B : Nat} {l m : List Nat} (h : Small B (l ++ m)) : Small B l := fun x hx => h x (List.mem_append_left _ hx)
theorem small_take {B : Nat} {l : List Nat} (h : Small B l) (k : Nat) : Small B (l.take k) := fun x hx => h x (List.mem_of_mem_take hx)
theorem small_drop {B : Nat} {l : List Nat} (h : Small B l) (k : Nat) : Small B (l.drop k) := fun x hx => h x (List.mem_of_mem_drop hx)
theorem small_get {B : Nat} {l : List Nat} (h : Small B l) (i : Nat) (hi : i < l.length) : l[i] < B := h _ (List.getElem_mem hi)
theorem small_getD {B : Nat} {l : List Nat} (h : Small B l) (hB : 0 < B) (i : Nat) : l[i]?.getD 0 < B := by
  cases hx : l[i]? with
  | none => simpa using hB
  | some x => simpa using h x (List.mem_of_getElem? hx)

theorem val_lt {B : Nat} (hB : 0 < B) : ∀ {l : List Nat}, Small B l → val B l < B ^ l.length
  | [], _ => by simp [val]
  | x :: l, h => by
    have h1 : x < B := h x (by simp)
    have h2 := val_lt hB (l := l) fun y hy => h y (by simp [hy])
    simp only [val, List.length_cons, Nat.pow_succ]
    have : B * val B l + B ≤ B ^ l.length * B := by
      rw [Nat.mul_comm (B ^ l.length)]; calc B * val B l + B = B * (val B l + 1) := by grind
        _ ≤ B * B ^ l.length := Nat.mul_le_mul_left _ h2
    omega
theorem val_take_drop (B : Nat) (l : List Nat) (k : Nat) (hk : k ≤ l.length) : val B l = val B (l.take k) + B ^ k * val B (l.drop k) := by
  conv => lhs; rw [← List.take_append_drop k l]
  rw [val_append, List.length_take, Nat.min_eq_left hk]
theorem take_succ' {α : Type} (l : List α) (k : Nat) (h : k < l.length) : l.take (k + 1) = l.take k ++ [l[k]] := by
  rw [List.take_succ_eq_append_getElem h]
theorem val_take_succ (B : Nat) (l : List Nat) (k : Nat) (h : k < l.length) : val B (l.take (k + 1)) = val B (l.take k) + B ^ k * l[k] := by
  rw [take_succ' l k h, val_snoc, List.length_take, Nat.min_eq_left (by omega)]
theorem val_take_ge (B : Nat) (l : List Nat) (k : Nat) (h : l.length ≤ k) : val B (l.take k) = val B l := by rw [List.take_of_length_le h]
/-- one digit more, which may lie beyond the end -/
theorem val_take_getD (B : Nat) (l : List Nat) (k : Nat) : val B (l.take (k + 1)) = val B (l.take k) + B ^ k * l[k]?.getD 0 := by
  by_cases h : k < l.length
  · rw [val_take_succ B l k h]; simp [h]
  · rw [val_take_ge _ _ _ (by omega), val_take_ge _ _ _ (by omega)]; simp [List.getElem?_eq_none (Nat.le_of_not_lt h)]
theorem val_drop_succ (B : Nat) (l : List Nat) (k : Nat) (h : k < l.length) : val B (l.drop k) = l[k] + B * val B (l.drop (k + 1)) := by
  rw [List.drop_eq_getElem_cons h, val_cons]

theorem dg_fuel {B : Nat} (hB : 2 ≤ B) : ∀ (f g n : Nat), n ≤ f → n ≤ g → dg B f n = dg B g n
  | 0, 0, n, _, _ => rfl
  | 0, g + 1, n, h, _ => by have : n = 0 := by omega
                            subst this; simp [dg]
  | f + 1, 0, n, _, h => by have : n = 0 := by omega
                            subst this; simp [dg]
  | f + 1, g + 1, n, h1, h2 => by
    simp only [dg]
    by_cases h : n = 0
    · simp [h]
    · have hd : n / B < n := Nat.div_lt_self (by omega) (by omega)
      simp only [h, if_false]
      rw [dg_fuel hB f g (n / B) (by omega) (by omega)]
theorem dig_zero (B : Nat) : dig B 0 = [] := rfl
theorem dig_pos {B : Nat} (hB : 2 ≤ B) {n : Nat} (h : 0 < n) : dig B n = (n % B) :: dig B (n / B) := by
  have hd : n / B < n := Nat.div_lt_self h (by omega)
  obtain ⟨m, rfl⟩ : ∃ m, n = m + 1 := ⟨n - 1, by omega⟩
  show dg B (m + 1) (m + 1) = _
  simp only [dg]
  rw [if_neg (by omega), dg_fuel hB m ((m + 1) / B) _ (by omega) (Nat.le_refl _)]
  rfl
theorem dig_one {B : Nat} (hB : 2 ≤ B) {n : Nat} (h : 0 < n) (hn : n < B) : dig B n = [n] := by
  rw [dig_pos hB h, Nat.mod_eq_of_lt hn, Nat.div_eq_of_lt hn, dig_zero]
theorem strong {P : Nat → Prop} (h : ∀ n, (∀ m, m < n → P m) → P n) (n : Nat) : P n := Nat.strongRecOn n h
theorem val_dig {B : Nat} (hB : 2 ≤ B) (n : Nat) : val B (dig B n) = n := by
  induction n using strong with
  | h n ih =>
    by_cases h : n = 0
    · subst h; rfl
    · have hd : n / B < n := Nat.div_lt_self (by omega) (by omega)
      rw [dig_pos hB (by omega), val_cons, ih _ hd]
      exact Nat.mod_add_div n B
theorem small_dig {B : Nat} (hB : 2 ≤ B) (n : Nat) : Small B (dig B n) := by
  induction n using strong with
  | h n ih =>
    by_cases h : n = 0
    · subst h; exact small_nil B
    · have hd : n / B < n := Nat.div_lt_self (by omega) (by omega)
      rw [dig_pos hB (by omega)]
      exact small_cons (Nat.mod_lt _ (by omega)) (ih _ hd)
theorem last_dig {B : Nat} (hB : 2 ≤ B) (n : Nat) : (h : dig B n ≠ []) → (dig B n).getLast h ≠ 0 := by
  induction n using strong with
  | h n ih =>
    intro h
    by_cases h0 : n = 0
    · subst h0; exact absurd rfl h
    · have hd : n / B < n := Nat.div_lt_self (by omega) (by omega)
      by_cases h1 : n / B = 0
      · have e : dig B n = [n % B] := by rw [dig_pos hB (by omega), h1]; rfl
        have : n % B ≠ 0 := by
          intro hm
          have := Nat.mod_add_div n B
          rw [hm, h1] at this; omega
        simp only [e, List.getLast_singleton]; exact this
      · have hne : dig B (n / B) ≠ [] := by rw [dig_pos hB (Nat.pos_of_ne_zero h1)]; simp
        have e : dig B n = (n % B) :: dig B (n / B) := dig_pos hB (by omega)
        have := ih _ hd hne
        simp only [e]
        rw [List.getLast_cons hne]; exact this
/-- a list without a nought at its end is its number's digits -/
theorem canon_last {B : Nat} (hB : 2 ≤ B) : ∀ {l : List Nat}, Small B l → (∀ h : l ≠ [], l.getLast h ≠ 0) → l = dig B (val B l)
  | [], _, _ => rfl
  | x :: l, hs, hl => by
    have hx : x < B := hs x (by simp)
    have hs' : Small B l := fun y hy => hs y (by simp [hy])
    have hl' : ∀ h : l ≠ [], l.getLast h ≠ 0 := by
      intro h; have := hl (by simp); rwa [List.getLast_cons h] at this
    have ih := canon_last hB hs' hl'
    have hpos : 0 < val B (x :: l) := by
      rw [val_cons]
      by_cases hln : l = []
      · subst hln; have := hl (by simp); simp at this; omega
      · have : val B l ≠ 0 := by
          intro h0; rw [h0] at ih; exact hln (by rw [ih]; rfl)
        have : 0 < B * val B l := Nat.mul_pos (by omega) (by omega)
        omega
    rw [dig_pos hB hpos, val_cons, Nat.add_mul_mod_self_left, Nat.mod_eq_of_lt hx, Nat.add_mul_div_left _ _ (by omega : 0 < B), Nat.div_eq_of_lt hx, Nat.zero_add, ← ih]
theorem canon {B : Nat} (hB : 2 ≤ B) {l : List Nat} (hs : Small B l) (h : l = [] ∨ B ^ (l.length - 1) ≤ val B l) : l = dig B (val B l) := by
  refine canon_last hB hs fun hne h0 => ?_
  rcases h with h | h
  · exact hne h
  · have e : l = l.dropLast ++ [0] := by rw [← h0]; exact (List.dropLast_concat_getLast hne).symm
    have hlt := val_lt (by omega : 0 < B) (l := l.dropLast) (fun y hy => hs y (List.dropLast_subset l hy))
    have e2 : val B l = val B l.dropLast := by rw [e, val_snoc]; simp
    rw [List.length_dropLast] at hlt
    omega
theorem canon_val {B : Nat} (hB : 2 ≤ B) {l : List Nat} {n : Nat} (hs : Small B l) (hv : val B l = n) (h : l = [] ∨ B ^ (l.length - 1) ≤ n) : l = dig B n := by
  subst hv; exact canon hB hs h
/-- equal values, equal digits -/
theorem dig_inj {B : Nat} (hB : 2 ≤ B) {n m : Nat} (h : dig B n = dig B m) : n = m := by
  rw [← val_dig hB n, ← val_dig hB m, h]
theorem dig_eq_nil {B : Nat} (hB : 2 ≤ B) {n : Nat} : dig B n = [] ↔ n = 0 :=
  ⟨fun h => by by_cases h0 : n = 0; exact h0; rw [dig_pos hB (by omega)] at h; simp at h, fun h => by subst h; rfl⟩

theorem sz_zero (B : Nat) : sz B 0 = 0 := rfl
theorem sz_pos {B : Nat} (hB : 2 ≤ B) {n : Nat} (h : 0 < n) : sz B n = sz B (n / B) + 1 := by unfold sz; rw [dig_pos hB h]; simp
theorem sz_eq_zero {B : Nat} (hB : 2 ≤ B) {n : Nat} : sz B n = 0 ↔ n = 0 := by
  unfold sz; rw [List.length_eq_zero_iff]; exact dig_eq_nil hB
theorem lt_pow_sz {B : Nat} (hB : 2 ≤ B) (n : Nat) : n < B ^ sz B n := by
  have := val_lt (by omega : 0 < B) (small_dig hB n); rwa [val_dig hB] at this
theorem pow_sz_le {B : Nat} (hB : 2 ≤ B) {n : Nat} (h : 0 < n) : B ^ (sz B n - 1) ≤ n := by
  induction n using strong with
  | h n ih =>
    by_cases h1 : n / B = 0
    · rw [sz_pos hB h, h1]; simp [sz_zero]; omega
    · have hd : n / B < n := Nat.div_lt_self (by omega) (by omega)
      have := ih _ hd (Nat.pos_of_ne_zero h1)
      have hsz : sz B (n / B) ≠ 0 := fun e => h1 ((sz_eq_zero hB).1 e)
      rw [sz_pos hB h, Nat.add_sub_cancel, show sz B (n / B) = sz B (n / B) - 1 + 1 by omega, Nat.pow_succ]
      calc B ^ (sz B (n / B) - 1) * B ≤ n / B * B := Nat.mul_le_mul_right _ this
        _ ≤ n := Nat.div_mul_le_self n B
theorem sz_le_of_lt {B : Nat} (hB : 2 ≤ B) {n k : Nat} (h : n < B ^ k) : sz B n ≤ k := by
  by_cases h0 : n = 0
  · subst h0; rw [sz_zero]; omega
  · have h1 := pow_sz_le hB (n := n) (by omega)
    have h2 : B ^ (sz B n - 1) < B ^ k := Nat.lt_of_le_of_lt h1 h
    have := (Nat.pow_lt_pow_iff_right (a := B) (by omega)).1 h2
    omega
theorem sz_mono {B : Nat} (hB : 2 ≤ B) {n m : Nat} (h : n ≤ m) : sz B n ≤ sz B m :=
  sz_le_of_lt hB (Nat.lt_of_le_of_lt h (lt_pow_sz hB m))
theorem sz_val {B : Nat} (hB : 2 ≤ B) {l : List Nat} (hs : Small B l) : sz B (val B l) ≤ l.length :=
  sz_le_of_lt hB (val_lt (by omega) hs)
theorem sz_mul {B : Nat} (hB : 2 ≤ B) (n m : Nat) : sz B (n * m) ≤ sz B n + sz B m := by
  by_cases h0 : m = 0
  · subst h0; rw [Nat.mul_zero, sz_zero]; omega
  refine sz_le_of_lt hB ?_
  rw [Nat.pow_add]
  exact Nat.mul_lt_mul_of_lt_of_le (lt_pow_sz hB n) (Nat.le_of_lt (lt_pow_sz hB m)) (Nat.pos_of_ne_zero (by have := lt_pow_sz hB m; omega))
theorem sz_add {B : Nat} (hB : 2 ≤ B) {n m k : Nat} (hn : sz B n ≤ k) (hm : sz B m ≤ k) : sz B (n + m) ≤ k + 1 := by
  refine sz_le_of_lt hB ?_
  have h1 := Nat.lt_of_lt_of_le (lt_pow_sz hB n) (Nat.pow_le_pow_right (by omega : 0 < B) hn)
  have h2 := Nat.lt_of_lt_of_le (lt_pow_sz hB m) (Nat.pow_le_pow_right (by omega : 0 < B) hm)
  rw [Nat.pow_succ]
  have : B ^ k * 2 ≤ B ^ k * B := Nat.mul_le_mul_left _ hB
  omega

/-- order by size: more digits, a greater number -/
theorem lt_of_sz_lt {B : Nat} (hB : 2 ≤ B) {n m : Nat} (h : sz B n < sz B m) : n < m := by
  rcases Nat.lt_or_ge n m with h1 | h1
  · exact h1
  · exact absurd (sz_mono hB h1) (by omega)
/-- what is greater in the highest digit at which two lists part is greater -/
theorem val_lt_of_part {B : Nat} {l m : List Nat} {i : Nat} (hl : Small B l) (hi : i < l.length) (him : i < m.length)
    (hd : l.drop (i + 1) = m.drop (i + 1)) (h : l[i] < m[i]) : val B l < val B m := by
  have hB : 0 < B := Nat.lt_of_le_of_lt (Nat.zero_le _) (small_get hl i hi)
  rw [val_take_drop B l i (by omega), val_take_drop B m i (by omega), val_drop_succ B l i hi, val_drop_succ B m i him, hd]
  have hlt := val_lt hB (small_take hl i)
  rw [List.length_take, Nat.min_eq_left (by omega)] at hlt
  have : B ^ i * (l[i] + 1) ≤ B ^ i * m[i] := Nat.mul_le_mul_left _ h
  grind

/-- the strokes of a sum -/
theorem add_step {B x y c s c' P v va vb : Nat} (h : x + y + c = s + B * c') (hv : v + c * P = va + vb) : (v + P * s) + c' * (P * B) = (va + P * x) + (vb + P * y) := by grind
/-- the strokes of a difference -/
theorem sub_step {B x y c s c' P v va vb : Nat} (h : x + B * c' = s + y + c) (hv : v + vb = va + c * P) : (v + P * s) + (vb + P * y) = (va + P * x) + c' * (P * B) := by grind

/-- without the noughts at the end -/
def strip : List Nat → List Nat
  | [] => []
  | x :: l => match strip l with
    | [] => if x = 0 then [] else [x]
    | y :: m => x :: y :: m
theorem strip_dig {B : Nat} (hB : 2 ≤ B) : ∀ {l : List Nat}, Small B l → strip l = dig B (val B l)
  | [], _ => rfl
  | x :: l, hs => by
    have hx : x < B := hs x (by simp)
    have ih := strip_dig hB (l := l) fun y hy => hs y (by simp [hy])
    simp only [strip]
    by_cases h0 : val B l = 0
    · rw [ih, h0, dig_zero]
      simp only [val_cons, h0, Nat.mul_zero, Nat.add_zero]
      by_cases hx0 : x = 0
      · subst hx0; rfl
      · simp only [if_neg hx0]; rw [dig_one hB (by omega) hx]
    · have hne : dig B (val B l) ≠ [] := fun e => h0 ((dig_eq_nil hB).1 e)
      have hpos : 0 < val B (x :: l) := by
        rw [val_cons]; have : 0 < B * val B l := Nat.mul_pos (by omega) (by omega)
        omega
      rw [dig_pos hB hpos, val_cons, Nat.add_mul_mod_self_left, Nat.mod_eq_of_lt hx, Nat.add_mul_div_left _ _ (by omega : 0 < B), Nat.div_eq_of_lt hx, Nat.zero_add, ih]
      cases hh : dig B (val B l) with
      | nil => exact absurd hh hne
      | cons y m => rfl
theorem strip_snoc_zero (l : List Nat) : strip (l ++ [0]) = strip l := by
  induction l with
  | nil => rfl
  | cons x l ih => simp only [List.cons_append, strip, ih]
theorem strip_snoc {l : List Nat} {x : Nat} (h : x ≠ 0) : strip (l ++ [x]) = l ++ [x] := by
  induction l with
  | nil => simp [strip, h]
  | cons y l ih =>
    simp only [List.cons_append, strip, ih]
    cases l <;> rfl
/-- what trim takes off, one at a time -/
theorem strip_take {l : List Nat} {k : Nat} (hk : k < l.length) (h : l[k] = 0) : strip (l.take (k + 1)) = strip (l.take k) := by
  rw [take_succ' l k hk, h, strip_snoc_zero]
theorem strip_take_ne {l : List Nat} {k : Nat} (hk : k < l.length) (h : l[k] ≠ 0) : strip (l.take (k + 1)) = l.take (k + 1) := by
  rw [take_succ' l k hk, strip_snoc h]
theorem strip_nil : strip [] = [] := rfl
theorem strip_length (l : List Nat) : (strip l).length ≤ l.length := by
  induction l with
  | nil => simp [strip]
  | cons x l ih =>
    simp only [strip]
    cases h : strip l with
    | nil => by_cases hx : x = 0 <;> simp [hx]
    | cons y m => rw [h] at ih; simp at ih ⊢; omega

/-- the two bases of the texts: words of 64 bits, halves of 32, digits of 16 -/
def W : Nat := 18446744073709551616
def H : Nat := 4294967296
def D : Nat := 65536
theorem W2 : 2 ≤ W := by decide
theorem H2 : 2 ≤ H := by decide
theorem D2 : 2 ≤ D := by decide

end Go.Proofs.Ytcpkejonpnmljaa.Big
/- How a slice of unsigned or signed numbers reads in memory: At w k v l says that the value v is a slice whose elements, of integer kind k, are the numbers l. -/
namespace Go.Proofs.Ytcpkejonpnmljaa
open Go.RowKit

/-- a fact that the walk does not take for a rule -/
theorem hid {p : Prop} (h : p) : Hid p := h

/-- the slice v holds the numbers l -/
def At (w : World) (k : IntKind) (v : Value) (l : List Nat) : Prop :=
  ∃ p cap, v = .slice p l.length cap ∧ l.length ≤ cap ∧ cap ≤ maxLen ∧ (p = none → cap = 0) ∧
    (0 < l.length → ∃ b off, p = some ⟨b, off, none⟩ ∧ b < w.heap.size ∧ ∀ i (h : i < l.length), w.cell? ⟨b, off + i, none⟩ = some (.int k (l[i]'h : Nat)))

theorem At.nil (w : World) (k : IntKind) : At w k (.slice none 0 0) [] := ⟨none, 0, rfl, by simp, by simp [maxLen], fun _ => rfl, fun h => absurd h (by simp)⟩
theorem At.below {w w' : World} {k : IntKind} {v : Value} {l : List Nat} (h : At w k v l) (hb : Below w.heap.size w w') : At w' k v l := by
  obtain ⟨p, cap, hv, h1, h2, h3, h4⟩ := h
  refine ⟨p, cap, hv, h1, h2, h3, fun hp => ?_⟩
  obtain ⟨b, off, h5, h6, h7⟩ := h4 hp
  exact ⟨b, off, h5, Nat.lt_of_lt_of_le h6 hb.size, fun i hi => (hb.cell (p := ⟨b, off + i, none⟩) h6).trans (h7 i hi)⟩
/-- a cut at the end -/
theorem At.take {w : World} {k : IntKind} {p : Option Addr} {n cap : Nat} {l : List Nat} (h : At w k (.slice p n cap) l) (m : Nat) (hm : m ≤ l.length) : At w k (.slice p m cap) (l.take m) := by
  obtain ⟨p', cap', hv, h1, h2, h3, h4⟩ := h
  cases hv
  refine ⟨p, cap, by simp [Nat.min_eq_left hm], by simp; omega, h2, h3, fun hp => ?_⟩
  rw [List.length_take, Nat.min_eq_left hm] at hp
  obtain ⟨b, off, h5, h6, h7⟩ := h4 (by omega)
  exact ⟨b, off, h5, h6, fun i hi => by rw [h7 i (by simp at hi; omega)]; simp⟩

/-- what a call answers: a slice of numbers l; memory that was there stays -/
def RAt (k : IntKind) (l : List Nat) (w : World) (e : Ending) (w' : World) : Prop := ∃ v', e = .returned v' ∧ At w' k v' l ∧ Below w.heap.size w w'
/-- likewise, nothing having turned -/
def RSame (k : IntKind) (l : List Nat) (w : World) (e : Ending) (w' : World) : Prop := ∃ v', e = .returned v' ∧ At w' k v' l ∧ w = w'
/-- a whole number by its sign and size -/
def sg (neg : Bool) (n : Nat) : Int := if neg then -(n : Int) else n
/-- a whole number as it is told -/
def IntAt (w : World) (v : Value) (z : Int) : Prop := ∃ s, v = .agg #[.bool (decide (z < 0)), s] ∧ At w .u64 s (Big.dig Big.W z.natAbs)
def RInt (z : Int) (w : World) (e : Ending) (w' : World) : Prop := ∃ v, e = .returned v ∧ IntAt w' v z ∧ Below w.heap.size w w'
/-- a whole number as it is handed in -/
def RawAt (w : World) (v : Value) (z : Int) : Prop := ∃ neg s l, v = .agg #[.bool neg, s] ∧ At w .u64 s l ∧ Big.Small Big.W l ∧ l.length ≤ 1099511627776 ∧ z = sg neg (Big.val Big.W l)
def RBool (b : Bool) (w : World) (e : Ending) (w' : World) : Prop := e = .returned (.bool b) ∧ Below w.heap.size w w'
def RNum (k : IntKind) (n : Int) (w : World) (e : Ending) (w' : World) : Prop := e = .returned (.int k n) ∧ Below w.heap.size w w'
theorem IntAt.below {w w' : World} {v : Value} {z : Int} (h : IntAt w v z) (hb : Below w.heap.size w w') : IntAt w' v z := by
  obtain ⟨s, hs, ha⟩ := h
  exact ⟨s, hs, ha.below hb⟩
theorem RawAt.below {w w' : World} {v : Value} {z : Int} (h : RawAt w v z) (hb : Below w.heap.size w w') : RawAt w' v z := by
  obtain ⟨neg, s, l, hs, ha, r⟩ := h
  exact ⟨neg, s, l, hs, ha.below hb, r⟩
theorem sg_natAbs (neg : Bool) (n : Nat) : (sg neg n).natAbs = n := by unfold sg; cases neg <;> simp
theorem sg_neg (neg : Bool) (n : Nat) (h : n ≠ 0) : decide (sg neg n < 0) = neg := by unfold sg; cases neg <;> simp <;> omega
theorem sg_zero (neg : Bool) : sg neg 0 = 0 := by unfold sg; cases neg <;> simp
theorem IntAt.zero (w : World) : IntAt w (.agg #[.bool false, .slice none 0 0]) 0 := ⟨_, by simp, At.nil w .u64⟩
theorem IntAt.mk {w : World} {neg : Bool} {s : Value} {n : Nat} (h0 : n ≠ 0) (h : At w .u64 s (Big.dig Big.W n)) : IntAt w (.agg #[.bool neg, s]) (sg neg n) :=
  ⟨s, by rw [sg_neg neg n h0], by rw [sg_natAbs]; exact h⟩
/-- a fresh cell of its own -/
theorem At.one (w : World) (k : IntKind) (x : Nat) (t : TypeId) : At (w.alloc (.cells #[.int k x] t)) k (.slice (some ⟨w.heap.size, 0, none⟩) 1 1) [x] :=
  ⟨_, 1, rfl, by simp, by simp [maxLen], fun h => (by cases h), fun _ => ⟨_, _, rfl, by simp, fun i hi => by
    obtain rfl : i = 0 := by simp at hi; omega
    simp [go_sem]⟩⟩
theorem below1 (w : World) (o : Obj) : Below w.heap.size w (w.alloc o) := (Below.refl _ _).alloc (Nat.le_refl _) o
def lenOf : Value → Nat | .slice _ n _ => n | _ => 0

theorem quiet_add_same {P : Program} {f : FuncId} {args : Array Value} {w : World} {a n : Nat} {v : Value}
    (h : Calls P f args (w.drewN (a + n)) fun e w' => e = .returned v ∧ w' = w.drewN (a + n)) :
    Calls P f args (w.drewN (a + n)) fun e w'' => e = .returned v ∧ ∃ m, w'' = w.drewN (a + m) :=
  h.mono fun _ _ ⟨he, hm⟩ => ⟨he, n, hm⟩
theorem At.drew {w : World} {k : IntKind} {v : Value} {l : List Nat} (h : At w k v l) : At w.drew k v l := h
theorem At.alloc {w : World} {k : IntKind} {v : Value} {l : List Nat} (h : At w k v l) (o : Obj) : At (w.alloc o) k v l := h.below (below1 w o)
/-- a slice cut behind its first m elements -/
def cutTo (v : Value) (m : Nat) : Value := match v with | .slice p _ c => .slice p m c | v => v
theorem At.cut {w : World} {k : IntKind} {v : Value} {l : List Nat} (h : At w k v l) (m : Nat) (hm : m ≤ l.length) : At w k (cutTo v m) (l.take m) := by
  have h' := h
  obtain ⟨p, cap, rfl, r⟩ := h'
  exact h.take m hm
theorem At.drewN {w : World} {k : IntKind} {v : Value} {l : List Nat} (h : At w k v l) (n : Nat) : At (w.drewN n) k v l := h

end Go.Proofs.Ytcpkejonpnmljaa
/-
  DERIVED: THE SHELF's CONTRACTS AT THIS DUMP, IN PLAIN WORDS (tools/lay-plain.mjs out of 'TryShelf.lean', which tools/lay-shelf.mjs wrote): THE SAME DECLARATIONS UNDER THE SAME NAMES: 'import', 'namespace', 'open', 'def', 'theorem' AND NOTHING ELSE: no command of the shelf's: FOR A HAND-IN. Each laying: the table of numbers ('.._ren') and one theorem, a field a fact of the dump's own or the kernel's comparison; each contract: ONE APPLICATION.
-/
namespace Go.Proofs
open Go.Shelf
def Try.lays169_ren : Go.Shelf.Ren := ⟨fun | 169 => 17 | n => n, fun | 70 => 48 | 9 => 9 | 0 => 0 | 72 => 50 | 37 => 23 | 127 => 68 | 3 => 3 | 5 => 5 | n => n, fun | n => n⟩
theorem Try.lays169 : Go.Proofs.Lays.n169 Try.prog Try.lays169_ren := {
  mixed := by kernel_rfl
  f169 := Try.func17.trans (congrArg some (by kernel_rfl))
  t0 := Try.underlying0
  a0 := Try.isAgg0
  z0 := Try.sizeOf0
  v0 := Try.zeroValue0
  t3 := Try.underlying3
  a3 := Try.isAgg3
  z3 := Try.sizeOf3
  v3 := Try.zeroValue3
  t9 := Try.underlying9
  a9 := Try.isAgg9
  z9 := Try.sizeOf9
  v9 := Try.zeroValue9
  t37 := Try.underlying23
  a37 := Try.isAgg23
  z37 := Try.sizeOf23
  v37 := Try.zeroValue23
  t70 := Try.underlying48
  a70 := Try.isAgg48
  z70 := Try.sizeOf48
  v70 := Try.zeroValue48
  t72 := Try.underlying50
  a72 := Try.isAgg50
  z72 := Try.sizeOf50
  v72 := Try.zeroValue50
  t127 := Try.underlying68
  a127 := Try.isAgg68
  z127 := Try.sizeOf68
  v127 := Try.zeroValue68 }
theorem Try.Builder_Extra_169 : Builder.Extra Try.prog Try.lays169_ren := {
  sizeBuilder := by kernel_rfl
  liesBuilder := by kernel_rfl
  t5 := Try.underlying5
  a5 := Try.isAgg5
  z5 := Try.sizeOf5
  v5 := Try.zeroValue5
  infoByte := by kernel_rfl
  cellsByte := by kernel_rfl
  sizeByte := by kernel_rfl
  neB5 := by decide }
open Go.RowKit in
/-- (*strings.Builder).String: "String returns the accumulated string.": OF A BUILDER THAT HOLDS AT LEAST ONE BYTE. ✋ THE MODEL FREEZES THOSE BYTES IN THE BUFFER (unsafe.String): a later write INTO them ends the model's run without an answer; a later append BEHIND them goes on. The statement's order of evaluation is drawn: one draw. (LAID: no walk: one application.) -/
theorem Try.Builder_String (B b : Nat) (l : List UInt8) (w : World) (h : Lib.IsBuilder 50 5 B b (Lib.byteCells l) w) (h0 : l ≠ []) :
    Calls Try.prog 17 #[.pointer (some ⟨b, 0, none⟩)] w fun e w' => e = .returned (.string ⟨l.toArray⟩) ∧ Below B w w' := Any.Builder_String Try.lays169 Try.Builder_Extra_169 B b l w h h0
open Go.RowKit in
/-- (*strings.Builder).String OF A BUILDER THAT HOLDS NO BYTE: the empty string. (Its buffer is nil, or a row of which it has taken nothing yet; where that row has NO capacity the model lays one new block for unsafe.SliceData's 'some address'.) One draw. (LAID: no walk: one application.) -/
theorem Try.Builder_String_empty (B b : Nat) (w : World) (h : Lib.IsBuilder 50 5 B b [] w) (hBw : B ≤ w.heap.size) :
    Calls Try.prog 17 #[.pointer (some ⟨b, 0, none⟩)] w fun e w' => e = .returned (.string ⟨#[]⟩) ∧ Below B w w' := Any.Builder_String_empty Try.lays169 Try.Builder_Extra_169 B b w h hBw
open Go.RowKit in
/-- (*strings.Builder).String: "String returns the accumulated string.": WHATEVER THE BUILDER HOLDS. (LAID: no walk: one application.) -/
theorem Try.Builder_String_any (B b : Nat) (l : List UInt8) (w : World) (h : Lib.IsBuilder 50 5 B b (Lib.byteCells l) w) (hBw : B ≤ w.heap.size) :
    Calls Try.prog 17 #[.pointer (some ⟨b, 0, none⟩)] w fun e w' => e = .returned (.string ⟨l.toArray⟩) ∧ Below B w w' := Any.Builder_String_any Try.lays169 Try.Builder_Extra_169 B b l w h hBw
def Try.lays137_ren : Go.Shelf.Ren := ⟨fun | 137 => 40 | 217 => 54 | 266 => 58 | n => n, fun | 9 => 9 | 5 => 5 | 3 => 3 | n => n, fun | n => n⟩
theorem Try.lays137 : Go.Proofs.Lays.n137 Try.prog Try.lays137_ren := {
  mixed := by kernel_rfl
  f137 := Try.func40.trans (congrArg some (by kernel_rfl))
  f217 := Try.func54.trans (congrArg some (by kernel_rfl))
  f266 := Try.func58.trans (congrArg some (by kernel_rfl))
  t3 := Try.underlying3
  a3 := Try.isAgg3
  z3 := Try.sizeOf3
  v3 := Try.zeroValue3
  t5 := Try.underlying5
  a5 := Try.isAgg5
  z5 := Try.sizeOf5
  v5 := Try.zeroValue5
  t9 := Try.underlying9
  a9 := Try.isAgg9
  z9 := Try.sizeOf9
  v9 := Try.zeroValue9 }
open Go.RowKit in
/-- strings.IndexByte: "IndexByte returns the index of the first instance of c in s, or -1 if c is not present in s.": IT RETURNS 'Lib.indexByte s c'; the world is as it was. (LAID: no walk: one application.) -/
theorem Try.strings_IndexByte (s : ByteArray) (c : Int) (w : World) :
    Calls Try.prog 40 #[.string s, .int .u8 c] w fun e w' => e = .returned (.int .i64 (Lib.indexByte s.data.toList c.toNat.toUInt8)) ∧ w' = w := Any.strings_IndexByte Try.lays137 s c w
open Go.RowKit in
/-- (*strings.Builder).String: "String returns the accumulated string.": OF A BUILDER THAT HOLDS AT LEAST ONE BYTE. ✋ THE MODEL FREEZES THOSE BYTES IN THE BUFFER (unsafe.String): a later write INTO them ends the model's run without an answer; a later append BEHIND them goes on. The statement's order of evaluation is drawn: one draw. THE FORM '_f': IT SAYS BESIDES THAT THE BUILDER IS A BUILDER STILL ('Lib.IsBuilderF', the same bytes): SO IT CAN BE WRITTEN ON: 'b.WriteString(b.String()[:k])'. (LAID: no walk: one application.) -/
theorem Try.Builder_String_f (B b : Nat) (l : List UInt8) (w : World) (h : Lib.IsBuilderF 50 5 B b (Lib.byteCells l) w) (h0 : l ≠ []) :
    Calls Try.prog 17 #[.pointer (some ⟨b, 0, none⟩)] w fun e w' => e = .returned (.string ⟨l.toArray⟩) ∧ (Lib.IsBuilderF 50 5 B b (Lib.byteCells l) w' ∧ Below B w w') := Any.Builder_String_f Try.lays169 Try.Builder_Extra_169 B b l w h h0
open Go.RowKit in
/-- (*strings.Builder).String OF A BUILDER THAT HOLDS NO BYTE: the empty string; THE FORM '_f': a builder still. (LAID: no walk: one application.) -/
theorem Try.Builder_String_empty_f (B b : Nat) (w : World) (h : Lib.IsBuilderF 50 5 B b [] w) (hBw : B ≤ w.heap.size) :
    Calls Try.prog 17 #[.pointer (some ⟨b, 0, none⟩)] w fun e w' => e = .returned (.string ⟨#[]⟩) ∧ (Lib.IsBuilderF 50 5 B b [] w' ∧ Below B w w') := Any.Builder_String_empty_f Try.lays169 Try.Builder_Extra_169 B b w h hBw
open Go.RowKit in
/-- (*strings.Builder).String: "String returns the accumulated string.": WHATEVER THE BUILDER HOLDS; THE FORM '_f': OF A BUILDER THAT MAY HAVE BEEN READ BEFORE; AND IT IS A BUILDER STILL, holding the same bytes: it can be written on. (LAID: no walk: one application.) -/
theorem Try.Builder_String_any_f (B b : Nat) (l : List UInt8) (w : World) (h : Lib.IsBuilderF 50 5 B b (Lib.byteCells l) w) (hBw : B ≤ w.heap.size) :
    Calls Try.prog 17 #[.pointer (some ⟨b, 0, none⟩)] w fun e w' => e = .returned (.string ⟨l.toArray⟩) ∧ (Lib.IsBuilderF 50 5 B b (Lib.byteCells l) w' ∧ Below B w w') := Any.Builder_String_any_f Try.lays169 Try.Builder_Extra_169 B b l w h hBw
open Go.RowKit in
/-- (*strings.Builder).String: "String returns the accumulated string.": OF A BUILDER THAT HOLDS AT LEAST ONE BYTE. ✋ THE MODEL FREEZES THOSE BYTES IN THE BUFFER (unsafe.String): a later write INTO them ends the model's run without an answer; a later append BEHIND them goes on. The statement's order of evaluation is drawn: one draw. THE FORM '_k': OVER 'Lib.IsBuilderF' (a builder that 'String()' may have read), AND WITH THE FRAME THAT REACHES ABOVE THE BUILDER: 'Lib.OthersKept': every block that is not b and is no row of uint8's stands as it stood: the iterator of a range among them. (LAID: no walk: one application.) -/
theorem Try.Builder_String_k (B b : Nat) (l : List UInt8) (w : World) (h : Lib.IsBuilderF 50 5 B b (Lib.byteCells l) w) (h0 : l ≠ []) :
    Calls Try.prog 17 #[.pointer (some ⟨b, 0, none⟩)] w fun e w' => e = .returned (.string ⟨l.toArray⟩) ∧ (Lib.IsBuilderF 50 5 B b (Lib.byteCells l) w' ∧ Below B w w' ∧ Lib.OthersKept 5 (some b) w w') := Any.Builder_String_k Try.lays169 Try.Builder_Extra_169 B b l w h h0
open Go.RowKit in
/-- (*strings.Builder).String OF A BUILDER THAT HOLDS NO BYTE: the empty string; THE FORM '_k': OVER 'Lib.IsBuilderF' (a builder that 'String()' may have read), AND WITH THE FRAME THAT REACHES ABOVE THE BUILDER: 'Lib.OthersKept': every block that is not b and is no row of uint8's stands as it stood: the iterator of a range among them. (LAID: no walk: one application.) -/
theorem Try.Builder_String_empty_k (B b : Nat) (w : World) (h : Lib.IsBuilderF 50 5 B b [] w) (hBw : B ≤ w.heap.size) :
    Calls Try.prog 17 #[.pointer (some ⟨b, 0, none⟩)] w fun e w' => e = .returned (.string ⟨#[]⟩) ∧ (Lib.IsBuilderF 50 5 B b [] w' ∧ Below B w w' ∧ Lib.OthersKept 5 (some b) w w') := Any.Builder_String_empty_k Try.lays169 Try.Builder_Extra_169 B b w h hBw
open Go.RowKit in
/-- (*strings.Builder).String: "String returns the accumulated string.": WHATEVER THE BUILDER HOLDS; THE FORM '_k': OVER 'Lib.IsBuilderF' (a builder that 'String()' may have read), AND WITH THE FRAME THAT REACHES ABOVE THE BUILDER: 'Lib.OthersKept': every block that is not b and is no row of uint8's stands as it stood: the iterator of a range among them. (LAID: no walk: one application.) -/
theorem Try.Builder_String_any_k (B b : Nat) (l : List UInt8) (w : World) (h : Lib.IsBuilderF 50 5 B b (Lib.byteCells l) w) (hBw : B ≤ w.heap.size) :
    Calls Try.prog 17 #[.pointer (some ⟨b, 0, none⟩)] w fun e w' => e = .returned (.string ⟨l.toArray⟩) ∧ (Lib.IsBuilderF 50 5 B b (Lib.byteCells l) w' ∧ Below B w w' ∧ Lib.OthersKept 5 (some b) w w') := Any.Builder_String_any_k Try.lays169 Try.Builder_Extra_169 B b l w h hBw
def Try.laysM316_ren : Go.Shelf.Ren := ⟨fun | 316 => 60 | n => n, fun | 9 => 9 | 3 => 3 | 4 => 4 | 37 => 23 | 0 => 0 | 127 => 68 | 5 => 5 | n => n, fun | n => n⟩
theorem Try.laysM316 : Go.Proofs.LaysM.n316 Try.prog Try.laysM316_ren := {
  mixed := by kernel_rfl
  f316 := Try.func60.trans (congrArg some (by kernel_rfl))
  t0 := Try.underlying0
  a0 := Try.isAgg0
  z0 := Try.sizeOf0
  v0 := Try.zeroValue0
  t3 := Try.underlying3
  a3 := Try.isAgg3
  z3 := Try.sizeOf3
  v3 := Try.zeroValue3
  t4 := Try.underlying4
  a4 := Try.isAgg4
  z4 := Try.sizeOf4
  v4 := Try.zeroValue4
  t9 := Try.underlying9
  a9 := Try.isAgg9
  z9 := Try.sizeOf9
  v9 := Try.zeroValue9
  t37 := Try.underlying23
  a37 := Try.isAgg23
  z37 := Try.sizeOf23
  v37 := Try.zeroValue23
  t127 := Try.underlying68
  a127 := Try.isAgg68
  z127 := Try.sizeOf68
  v127 := Try.zeroValue68
  t5 := Try.underlying5
  a5 := Try.isAgg5
  z5 := Try.sizeOf5
  v5 := Try.zeroValue5
  i0 := by kernel_rfl
  i3 := by kernel_rfl
  i4 := by kernel_rfl
  i5 := by kernel_rfl
  i9 := by kernel_rfl
  i37 := by kernel_rfl
  i127 := by kernel_rfl }
open Go.RowKit in
/-- internal/stringslite.Clone (what strings.Clone calls): "Clone returns a fresh copy of s.": THE SAME BYTES. Of what was there nothing has turned (a new row is laid, and frozen, where s is not empty). (LAID: no walk: one application.) -/
theorem Try.stringslite_Clone (s : ByteArray) (w : World) (hlim : s.size ≤ 281474976710656) :
    Calls Try.prog 60 #[.string s] w fun e w' => e = .returned (.string s) ∧ Below w.heap.size w w' := Any.stringslite_Clone Try.laysM316 s w hlim
def Try.lays217_ren : Go.Shelf.Ren := ⟨fun | 217 => 54 | 266 => 58 | n => n, fun | 9 => 9 | 5 => 5 | 3 => 3 | n => n, fun | n => n⟩
theorem Try.lays217 : Go.Proofs.Lays.n217 Try.prog Try.lays217_ren := {
  mixed := by kernel_rfl
  f217 := Try.func54.trans (congrArg some (by kernel_rfl))
  f266 := Try.func58.trans (congrArg some (by kernel_rfl))
  t3 := Try.underlying3
  a3 := Try.isAgg3
  z3 := Try.sizeOf3
  v3 := Try.zeroValue3
  t5 := Try.underlying5
  a5 := Try.isAgg5
  z5 := Try.sizeOf5
  v5 := Try.zeroValue5
  t9 := Try.underlying9
  a9 := Try.isAgg9
  z9 := Try.sizeOf9
  v9 := Try.zeroValue9 }
open Go.RowKit Go.Lib in
/-- internal/stringslite.IndexByte (what strings.IndexByte calls): IT RETURNS 'Lib.indexByte s c'; the world is as it was. (LAID: no walk: one application.) -/
theorem Try.stringslite_IndexByte (s : ByteArray) (c : Int) (w : World) :
    Calls Try.prog 54 #[.string s, .int .u8 c] w fun e w' => e = .returned (.int .i64 (Lib.indexByte s.data.toList c.toNat.toUInt8)) ∧ w' = w := Any.stringslite_IndexByte Try.lays217 s c w
end Go.Proofs
/- sexp's questions on bytes: sortOf, isSign, isDigit, isQuotable. -/
namespace Go.Proofs.Ytcpkejonpnmljaa
open Go.RowKit

theorem sx_ret_int {k : IntKind} {a b : Int} (h : a = b) : Ending.returned (.int k a) = .returned (.int k b) := by rw [h]
def SxV (v : Value) (w : World) (e : Ending) (w' : World) : Prop := e = .returned v ∧ w = w'
set_option maxRecDepth 100000 in
set_option maxHeartbeats 3200000 in
theorem sortOf_any (n : Nat) (hn : n < 256) (w : World) : Calls Try.prog 23 #[.int .u8 (n : Nat)] w (SxV (.int .i64 (sxSort n : Nat)) w) := by
  have hi : Calls Try.prog 40 #[.string ⟨#[126, 33, 64, 36, 37, 94, 38, 42, 95, 45, 43, 61, 60, 62, 46, 63, 47]⟩, .int .u8 (n : Nat)] w fun e w' => e = .returned (.int .i64 (Lib.indexByte sxMarks n.toUInt8)) ∧ w' = w := Try.strings_IndexByte _ _ w
  have Hi := hid hi
  have hi0 : n = n → sxLet n = ((decide (97 ≤ n) && decide (n ≤ 122)) || (decide (65 ≤ n) && decide (n ≤ 90)) || decide (0 ≤ Lib.indexByte sxMarks n.toUInt8)) := fun _ => rfl
  have Hl := hid (hi0 rfl)
  obtain ⟨r, hr⟩ : ∃ r, r = sxSort n := ⟨_, rfl⟩
  rw [← hr]
  have Hr := hid hr
  clear hi hi0 hr
  generalize Lib.indexByte sxMarks n.toUInt8 = ix at *
  go_enter Try.func23, Try.ntmps23
  go_wp2_with (first | (refine Hi.out.mono ?_; rintro e w' ⟨rfl, rfl⟩))
  all_goals
    go_ret
    refine ⟨sx_ret_int ?_, rfl⟩
    have Hr := Hr.out; have Hl := Hl.out
    unfold sxSort at Hr
    rw [Hl] at Hr
    clear Hl Hi
    simp only [beq_eq_false_iff_ne, ne_eq, beq_iff_eq, Bool.or_eq_true, Bool.and_eq_true, decide_eq_true_eq] at *
    (repeat' split at Hr) <;> omega
end Go.Proofs.Ytcpkejonpnmljaa
/- sexp's questions on bytes and texts: isSign, isDigit, isQuotable, leading, all, isPlain, isNumeral, isKey. -/
namespace Go.Proofs.Ytcpkejonpnmljaa
open Go.RowKit

theorem sx_ret_bool {a b : Bool} (h : a = b) : Ending.returned (.bool a) = .returned (.bool b) := by rw [h]

set_option maxRecDepth 100000 in
set_option maxHeartbeats 1600000 in
theorem isSign_any (n : Nat) (hn : n < 256) (w : World) : Calls Try.prog 46 #[.int .u8 (n : Nat)] w (SxV (.bool (sxSign n)) w) := by
  have hs := sortOf_any n hn w
  have Hs := hid hs
  have hr : Hid (sxSign n = ((sxSort n : Int) == 3 || (sxSort n : Int) == 4)) := by
    unfold Hid sxSign
    rw [Bool.eq_iff_iff]; simp; omega
  clear hs
  generalize sxSign n = r at *
  generalize sxSort n = s at *
  go_enter Try.func46, Try.ntmps46
  go_wp2_with (first | (refine Hs.out.mono ?_; rintro e w' ⟨rfl, rfl⟩))
  all_goals
    go_ret
    refine ⟨sx_ret_bool ?_, rfl⟩
    first
      | (rw [hr.out]; done)
      | (rw [hr.out]; simp_all)

set_option maxRecDepth 100000 in
set_option maxHeartbeats 1600000 in
theorem isDigit_any (n : Nat) (hn : n < 256) (w : World) : Calls Try.prog 55 #[.int .u8 (n : Nat)] w (SxV (.bool (sxDig n)) w) := by
  have hs := sortOf_any n hn w
  have Hs := hid hs
  have hr : Hid (sxDig n = ((sxSort n : Int) == 4)) := by
    unfold Hid sxDig
    rw [Bool.eq_iff_iff]; simp; omega
  clear hs
  generalize sxDig n = r at *
  generalize sxSort n = s at *
  go_enter Try.func55, Try.ntmps55
  go_wp2_with (first | (refine Hs.out.mono ?_; rintro e w' ⟨rfl, rfl⟩))
  all_goals
    go_ret
    refine ⟨sx_ret_bool ?_, rfl⟩
    rw [hr.out]

set_option maxRecDepth 100000 in
set_option maxHeartbeats 1600000 in
theorem isQuotable_any (n : Nat) (hn : n < 256) (w : World) : Calls Try.prog 43 #[.int .u8 (n : Nat)] w (SxV (.bool (sxQuo n)) w) := by
  have hs := sortOf_any n hn w
  have Hs := hid hs
  have hr : Hid (sxQuo n = ((sxSort n : Int) == 1 || (decide (32 ≤ (n : Int)) && decide ((n : Int) ≤ 126) && ((n : Int) != 124) && ((n : Int) != 92)))) := by
    unfold Hid sxQuo
    rw [Bool.eq_iff_iff]; simp; omega
  clear hs
  generalize sxQuo n = r at *
  generalize sxSort n = s at *
  by_cases h1 : ((s : Int) == 1) = true
  · go_enter Try.func43, Try.ntmps43
    go_wp2_with (first | (refine Hs.out.mono ?_; rintro e w' ⟨rfl, rfl⟩))
    go_ret
    exact ⟨sx_ret_bool (by rw [hr.out, h1]; rfl), rfl⟩
  · have h1 : ((s : Int) == 1) = false := by simpa using h1
    by_cases h2 : decide (32 ≤ (n : Int)) = true
    · by_cases h3 : decide ((n : Int) ≤ 126) = true
      · by_cases h4 : ((n : Int) != 124) = true
        · by_cases h5 : ((n : Int) != 92) = true
          · go_enter Try.func43, Try.ntmps43
            go_wp2_with (first | (refine Hs.out.mono ?_; rintro e w' ⟨rfl, rfl⟩))
            go_ret
            exact ⟨sx_ret_bool (by rw [hr.out, h1, h2, h3, h4, h5]; rfl), rfl⟩
          · have h5 : ((n : Int) != 92) = false := by simpa using h5
            go_enter Try.func43, Try.ntmps43
            go_wp2_with (first | (refine Hs.out.mono ?_; rintro e w' ⟨rfl, rfl⟩))
            go_ret
            exact ⟨sx_ret_bool (by rw [hr.out, h1, h2, h3, h4, h5]; rfl), rfl⟩
        · have h4 : ((n : Int) != 124) = false := by simpa using h4
          go_enter Try.func43, Try.ntmps43
          go_wp2_with (first | (refine Hs.out.mono ?_; rintro e w' ⟨rfl, rfl⟩))
          go_ret
          exact ⟨sx_ret_bool (by rw [hr.out, h1, h2, h3, h4]; rfl), rfl⟩
      · have h3 : decide ((n : Int) ≤ 126) = false := by simpa using h3
        go_enter Try.func43, Try.ntmps43
        go_wp2_with (first | (refine Hs.out.mono ?_; rintro e w' ⟨rfl, rfl⟩))
        go_ret
        exact ⟨sx_ret_bool (by rw [hr.out, h1, h2, h3]; rfl), rfl⟩
    · have h2 : decide (32 ≤ (n : Int)) = false := by simpa using h2
      go_enter Try.func43, Try.ntmps43
      go_wp2_with (first | (refine Hs.out.mono ?_; rintro e w' ⟨rfl, rfl⟩))
      go_ret
      exact ⟨sx_ret_bool (by rw [hr.out, h1, h2]; rfl), rfl⟩
end Go.Proofs.Ytcpkejonpnmljaa
/- sexp.leading, all, at the three questions on bytes. -/
namespace Go.Proofs.Ytcpkejonpnmljaa
open Go.RowKit

set_option maxRecDepth 100000 in
set_option maxHeartbeats 1600000 in
theorem leading_sxSign (s : ByteArray) (w : World) (hs : s.size ≤ 9223372036854775807) : Calls Try.prog 51 #[.string s, .func (.func 46) #[] #[]] w (SxV (.int .i64 (sxLead sxSign s : Nat)) w) := by
  obtain ⟨r, hr⟩ : ∃ r, r = sxLead sxSign s := ⟨_, rfl⟩
  rw [← hr]
  have Hr := hid hr
  clear hr
  go_enter Try.func51, Try.ntmps51
  go_wp2_with fail
  go_loop [8] (fun i => ∃ k : Nat, k ≤ s.size ∧ i = .int .i64 (k : Nat) ∧ Hid (∀ j (h : j < s.size), j < k → sxSign (s[j]'h).toNat = true)) (fun i => s.size - (intOf i).toNat)
  case atStart => exact ⟨0, Nat.zero_le _, rfl, fun j h hj => absurd hj (Nat.not_lt_zero _)⟩
  case round =>
    obtain ⟨k, hk, rfl, hdig⟩ := hrel
    by_cases hlt : k < s.size
    · have hc := hid (isSign_any (s[k]'hlt).toNat (UInt8.toNat_lt _) w)
      by_cases hp : sxSign (s[k]'hlt).toNat = true
      · rw [hp] at hc
        have hdig' : Hid (∀ j (h : j < s.size), j < k + 1 → sxSign (s[j]'h).toNat = true) := fun j h hj => by
          by_cases hjk : j = k
          · subst hjk; exact hp
          · exact hdig.out j h (by omega)
        clear hdig hp
        go_wp2_with fail
        refine hc.out.mono ?_
        rintro e w' ⟨rfl, rfl⟩
        go_wp2_with fail
        go_round
        case rel => exact ⟨k + 1, by omega, by go_num, hdig'⟩
        case measure => (simp [intOf] <;> omega)
      · have hp : sxSign (s[k]'hlt).toNat = false := by simpa using hp
        rw [hp] at hc
        have hf : Hid (r = k) := by
          unfold Hid; rw [Hr.out]
          exact sxLead_stop _ s k hk hdig.out (fun _ => hp)
        clear hdig hp Hr
        go_wp2_with fail
        refine hc.out.mono ?_
        rintro e w' ⟨rfl, rfl⟩
        go_wp2_with fail
        go_ret
        exact ⟨by rw [hf.out]; rfl, rfl⟩
    · have hf : Hid (r = s.size) := by
        unfold Hid; rw [Hr.out]
        exact sxLead_stop _ s s.size (Nat.le_refl _) (fun j h _ => hdig.out j h (by omega)) (fun h => absurd h (by omega))
      clear hdig Hr
      go_wp2_with fail
      go_ret
      exact ⟨by rw [hf.out]; rfl, rfl⟩

set_option maxRecDepth 100000 in
set_option maxHeartbeats 1600000 in
theorem leading_sxDig (s : ByteArray) (w : World) (hs : s.size ≤ 9223372036854775807) : Calls Try.prog 51 #[.string s, .func (.func 55) #[] #[]] w (SxV (.int .i64 (sxLead sxDig s : Nat)) w) := by
  obtain ⟨r, hr⟩ : ∃ r, r = sxLead sxDig s := ⟨_, rfl⟩
  rw [← hr]
  have Hr := hid hr
  clear hr
  go_enter Try.func51, Try.ntmps51
  go_wp2_with fail
  go_loop [8] (fun i => ∃ k : Nat, k ≤ s.size ∧ i = .int .i64 (k : Nat) ∧ Hid (∀ j (h : j < s.size), j < k → sxDig (s[j]'h).toNat = true)) (fun i => s.size - (intOf i).toNat)
  case atStart => exact ⟨0, Nat.zero_le _, rfl, fun j h hj => absurd hj (Nat.not_lt_zero _)⟩
  case round =>
    obtain ⟨k, hk, rfl, hdig⟩ := hrel
    by_cases hlt : k < s.size
    · have hc := hid (isDigit_any (s[k]'hlt).toNat (UInt8.toNat_lt _) w)
      by_cases hp : sxDig (s[k]'hlt).toNat = true
      · rw [hp] at hc
        have hdig' : Hid (∀ j (h : j < s.size), j < k + 1 → sxDig (s[j]'h).toNat = true) := fun j h hj => by
          by_cases hjk : j = k
          · subst hjk; exact hp
          · exact hdig.out j h (by omega)
        clear hdig hp
        go_wp2_with fail
        refine hc.out.mono ?_
        rintro e w' ⟨rfl, rfl⟩
        go_wp2_with fail
        go_round
        case rel => exact ⟨k + 1, by omega, by go_num, hdig'⟩
        case measure => (simp [intOf] <;> omega)
      · have hp : sxDig (s[k]'hlt).toNat = false := by simpa using hp
        rw [hp] at hc
        have hf : Hid (r = k) := by
          unfold Hid; rw [Hr.out]
          exact sxLead_stop _ s k hk hdig.out (fun _ => hp)
        clear hdig hp Hr
        go_wp2_with fail
        refine hc.out.mono ?_
        rintro e w' ⟨rfl, rfl⟩
        go_wp2_with fail
        go_ret
        exact ⟨by rw [hf.out]; rfl, rfl⟩
    · have hf : Hid (r = s.size) := by
        unfold Hid; rw [Hr.out]
        exact sxLead_stop _ s s.size (Nat.le_refl _) (fun j h _ => hdig.out j h (by omega)) (fun h => absurd h (by omega))
      clear hdig Hr
      go_wp2_with fail
      go_ret
      exact ⟨by rw [hf.out]; rfl, rfl⟩

set_option maxRecDepth 100000 in
set_option maxHeartbeats 1600000 in
theorem leading_sxQuo (s : ByteArray) (w : World) (hs : s.size ≤ 9223372036854775807) : Calls Try.prog 51 #[.string s, .func (.func 43) #[] #[]] w (SxV (.int .i64 (sxLead sxQuo s : Nat)) w) := by
  obtain ⟨r, hr⟩ : ∃ r, r = sxLead sxQuo s := ⟨_, rfl⟩
  rw [← hr]
  have Hr := hid hr
  clear hr
  go_enter Try.func51, Try.ntmps51
  go_wp2_with fail
  go_loop [8] (fun i => ∃ k : Nat, k ≤ s.size ∧ i = .int .i64 (k : Nat) ∧ Hid (∀ j (h : j < s.size), j < k → sxQuo (s[j]'h).toNat = true)) (fun i => s.size - (intOf i).toNat)
  case atStart => exact ⟨0, Nat.zero_le _, rfl, fun j h hj => absurd hj (Nat.not_lt_zero _)⟩
  case round =>
    obtain ⟨k, hk, rfl, hdig⟩ := hrel
    by_cases hlt : k < s.size
    · have hc := hid (isQuotable_any (s[k]'hlt).toNat (UInt8.toNat_lt _) w)
      by_cases hp : sxQuo (s[k]'hlt).toNat = true
      · rw [hp] at hc
        have hdig' : Hid (∀ j (h : j < s.size), j < k + 1 → sxQuo (s[j]'h).toNat = true) := fun j h hj => by
          by_cases hjk : j = k
          · subst hjk; exact hp
          · exact hdig.out j h (by omega)
        clear hdig hp
        go_wp2_with fail
        refine hc.out.mono ?_
        rintro e w' ⟨rfl, rfl⟩
        go_wp2_with fail
        go_round
        case rel => exact ⟨k + 1, by omega, by go_num, hdig'⟩
        case measure => (simp [intOf] <;> omega)
      · have hp : sxQuo (s[k]'hlt).toNat = false := by simpa using hp
        rw [hp] at hc
        have hf : Hid (r = k) := by
          unfold Hid; rw [Hr.out]
          exact sxLead_stop _ s k hk hdig.out (fun _ => hp)
        clear hdig hp Hr
        go_wp2_with fail
        refine hc.out.mono ?_
        rintro e w' ⟨rfl, rfl⟩
        go_wp2_with fail
        go_ret
        exact ⟨by rw [hf.out]; rfl, rfl⟩
    · have hf : Hid (r = s.size) := by
        unfold Hid; rw [Hr.out]
        exact sxLead_stop _ s s.size (Nat.le_refl _) (fun j h _ => hdig.out j h (by omega)) (fun h => absurd h (by omega))
      clear hdig Hr
      go_wp2_with fail
      go_ret
      exact ⟨by rw [hf.out]; rfl, rfl⟩

set_option maxRecDepth 100000 in
set_option maxHeartbeats 1600000 in
theorem all_sxSign (s : ByteArray) (w : World) (hs : s.size ≤ 9223372036854775807) : Calls Try.prog 42 #[.string s, .func (.func 46) #[] #[]] w (SxV (.bool (sxAll sxSign s)) w) := by
  have hl := leading_sxSign s w hs
  have Hl := hid hl
  have ha : Hid (sxAll sxSign s = ((sxLead sxSign s : Int) == (s.size : Int))) := by
    unfold Hid
    rw [sxAll_lead, Bool.eq_iff_iff]
    simp; omega
  clear hl
  generalize sxAll sxSign s = r at *
  generalize sxLead sxSign s = n at *
  go_enter Try.func42, Try.ntmps42
  go_wp2_with fail
  refine Hl.out.mono ?_
  rintro e w' ⟨rfl, rfl⟩
  go_wp2_with fail
  go_ret
  exact ⟨sx_ret_bool (by rw [ha.out]), rfl⟩

set_option maxRecDepth 100000 in
set_option maxHeartbeats 1600000 in
theorem all_sxDig (s : ByteArray) (w : World) (hs : s.size ≤ 9223372036854775807) : Calls Try.prog 42 #[.string s, .func (.func 55) #[] #[]] w (SxV (.bool (sxAll sxDig s)) w) := by
  have hl := leading_sxDig s w hs
  have Hl := hid hl
  have ha : Hid (sxAll sxDig s = ((sxLead sxDig s : Int) == (s.size : Int))) := by
    unfold Hid
    rw [sxAll_lead, Bool.eq_iff_iff]
    simp; omega
  clear hl
  generalize sxAll sxDig s = r at *
  generalize sxLead sxDig s = n at *
  go_enter Try.func42, Try.ntmps42
  go_wp2_with fail
  refine Hl.out.mono ?_
  rintro e w' ⟨rfl, rfl⟩
  go_wp2_with fail
  go_ret
  exact ⟨sx_ret_bool (by rw [ha.out]), rfl⟩

set_option maxRecDepth 100000 in
set_option maxHeartbeats 1600000 in
theorem all_sxQuo (s : ByteArray) (w : World) (hs : s.size ≤ 9223372036854775807) : Calls Try.prog 42 #[.string s, .func (.func 43) #[] #[]] w (SxV (.bool (sxAll sxQuo s)) w) := by
  have hl := leading_sxQuo s w hs
  have Hl := hid hl
  have ha : Hid (sxAll sxQuo s = ((sxLead sxQuo s : Int) == (s.size : Int))) := by
    unfold Hid
    rw [sxAll_lead, Bool.eq_iff_iff]
    simp; omega
  clear hl
  generalize sxAll sxQuo s = r at *
  generalize sxLead sxQuo s = n at *
  go_enter Try.func42, Try.ntmps42
  go_wp2_with fail
  refine Hl.out.mono ?_
  rintro e w' ⟨rfl, rfl⟩
  go_wp2_with fail
  go_ret
  exact ⟨sx_ret_bool (by rw [ha.out]), rfl⟩
end Go.Proofs.Ytcpkejonpnmljaa
/- sexp.isPlain, isNumeral, isKey. -/
namespace Go.Proofs.Ytcpkejonpnmljaa
open Go.RowKit

theorem sx_list {s : ByteArray} (h : 0 < s.size) : ∃ c l, s.data.toList = c :: l ∧ c = s[0]'h := by
  have hll : s.data.toList.length = s.size := Array.length_toList
  cases hl : s.data.toList with
  | nil => rw [hl] at hll; simp at hll; omega
  | cons c l =>
    refine ⟨c, l, rfl, ?_⟩
    have : s.data.toList[0]'(by omega) = s[0]'h := rfl
    rw [← this]; simp [hl]
theorem sx_empty {s : ByteArray} (h : s.size = 0) : s.data.toList = [] := List.eq_nil_of_length_eq_zero (by simpa using h)
theorem sx_emp1 {s : ByteArray} (h : s.size = 0) : s.toList.isEmpty = true := by rw [Lib.toList_data, sx_empty h]; rfl
theorem sx_emp2 {s : ByteArray} (h : 0 < s.size) : s.toList.isEmpty = false := by
  obtain ⟨c, l, e, -⟩ := sx_list h
  rw [Lib.toList_data, e]; rfl
theorem sx_nil1 {s : ByteArray} (h : s.size = 0) : s.toList = [] := by rw [Lib.toList_data, sx_empty h]

set_option maxRecDepth 100000 in
set_option maxHeartbeats 1600000 in
theorem isKey_any (s : ByteArray) (w : World) (hs : s.size ≤ 9223372036854775807) : Calls Try.prog 45 #[.string s] w (SxV (.bool (sxKey s)) w) := by
  obtain ⟨r, hr⟩ : ∃ r, r = sxKey s := ⟨_, rfl⟩
  rw [← hr]
  have Ha := hid (all_sxSign s w hs)
  by_cases h0 : s.size = 0
  · have hf : Hid (r = false) := by unfold Hid; rw [hr]; unfold sxKey; rw [sx_empty h0]; rfl
    have he := sx_emp1 h0
    clear hr
    go_enter Try.func45, Try.ntmps45
    go_wp2_with fail
    go_ret
    exact ⟨by rw [hf.out]; rfl, rfl⟩
  · have he := sx_emp2 (Nat.pos_of_ne_zero h0)
    have hf : Hid (r = sxAll sxSign s) := by
      obtain ⟨c, l, e, -⟩ := sx_list (Nat.pos_of_ne_zero h0)
      unfold Hid; rw [hr]; unfold sxKey; rw [e]; rfl
    clear hr
    go_enter Try.func45, Try.ntmps45
    go_wp2_with fail
    refine Ha.out.mono ?_
    rintro e w' ⟨rfl, rfl⟩
    go_wp2_with fail
    go_ret
    exact ⟨by rw [hf.out]; rfl, rfl⟩

set_option maxRecDepth 100000 in
set_option maxHeartbeats 1600000 in
theorem isPlain_any (s : ByteArray) (w : World) (hs : s.size ≤ 9223372036854775807) : Calls Try.prog 41 #[.string s] w (SxV (.bool (sxPlain s)) w) := by
  obtain ⟨r, hr⟩ : ∃ r, r = sxPlain s := ⟨_, rfl⟩
  rw [← hr]
  have Ha := hid (all_sxSign s w hs)
  by_cases h0 : s.size = 0
  · have hf : Hid (r = false) := by unfold Hid; rw [hr]; unfold sxPlain; rw [sx_empty h0]
    have he := sx_emp1 h0
    clear hr
    go_enter Try.func41, Try.ntmps41
    go_wp2_with fail
    go_ret
    exact ⟨by rw [hf.out]; rfl, rfl⟩
  · have hp := Nat.pos_of_ne_zero h0
    have he := sx_emp2 hp
    have Hs := hid (sortOf_any (s[0]'hp).toNat (UInt8.toNat_lt _) w)
    have hf : Hid (r = (((sxSort (s[0]'hp).toNat : Nat) : Int) == 3 && sxAll sxSign s)) := by
      obtain ⟨c, l, e, ec⟩ := sx_list hp
      unfold Hid; rw [hr]; unfold sxPlain; rw [e, ← ec]
      show (sxSort c.toNat == 3 && _) = _
      congr 1
      rw [Bool.eq_iff_iff]; simp; omega
    clear hr
    generalize sxAll sxSign s = al at *
    by_cases h3 : ((sxSort (s[0]'hp).toNat : Nat) : Int) == 3
    · rw [h3] at hf
      generalize sxSort (s[0]'hp).toNat = so at *
      go_enter Try.func41, Try.ntmps41
      go_wp2_with fail
      refine Hs.out.mono ?_
      rintro e w' ⟨rfl, rfl⟩
      go_wp2_with fail
      refine Ha.out.mono ?_
      rintro e w' ⟨rfl, rfl⟩
      go_wp2_with fail
      go_ret
      exact ⟨by rw [hf.out]; rfl, rfl⟩
    · have h3 : (((sxSort (s[0]'hp).toNat : Nat) : Int) == 3) = false := by simpa using h3
      rw [h3] at hf
      generalize sxSort (s[0]'hp).toNat = so at *
      go_enter Try.func41, Try.ntmps41
      go_wp2_with fail
      refine Hs.out.mono ?_
      rintro e w' ⟨rfl, rfl⟩
      go_wp2_with fail
      go_ret
      exact ⟨by rw [hf.out]; rfl, rfl⟩
set_option maxRecDepth 100000 in
set_option maxHeartbeats 1600000 in
theorem isNumeral_any (s : ByteArray) (w : World) (hs : s.size ≤ 9223372036854775807) : Calls Try.prog 44 #[.string s] w (SxV (.bool (sxNum s)) w) := by
  obtain ⟨r, hr⟩ : ∃ r, r = sxNum s := ⟨_, rfl⟩
  rw [← hr]
  have Ha := hid (all_sxDig s w hs)
  by_cases h0 : s.size = 0
  · have hf : Hid (r = false) := by unfold Hid; rw [hr]; unfold sxNum; rw [sx_empty h0]
    obtain rfl : s = ⟨#[]⟩ := by
      have := sx_empty h0
      cases s with | mk d => cases d with | mk l => simp at this; subst this; rfl
    clear hr Ha
    go_enter Try.func44, Try.ntmps44
    go_wp2_with fail
    go_ret
    exact ⟨by rw [hf.out]; rfl, rfl⟩
  · have hp := Nat.pos_of_ne_zero h0
    have he := sx_emp2 hp
    obtain ⟨c, l, e, ec⟩ := sx_list hp
    by_cases hc : c = 48
    · by_cases hl : l = []
      · subst hl
        have hf : Hid (r = true) := by unfold Hid; rw [hr]; unfold sxNum; rw [e, hc]; rfl
        obtain rfl : s = ⟨#[48]⟩ := by
          rw [hc] at e
          cases s with | mk d => cases d with | mk l => simp at e; subst e; rfl
        clear hr Ha e ec
        go_enter Try.func44, Try.ntmps44
        go_wp2_with fail
        go_ret
        exact ⟨by rw [hf.out]; rfl, rfl⟩
      · have hf : Hid (r = false) := by
          unfold Hid; rw [hr]; unfold sxNum; rw [e, hc]
          cases l with
          | nil => exact absurd rfl hl
          | cons a l => rfl
        have hne : s.toList ≠ [48] := by
          rw [Lib.toList_data, e]
          intro h
          injection h with h1 h2
          exact hl h2
        have hnb : (s.toList == [48]) = false := beq_eq_false_iff_ne.2 hne
        have hz : (((s[0]'hp).toNat : Int) != 48) = false := by rw [← ec, hc]; rfl
        clear hne
        clear hr Ha e ec hl
        go_enter Try.func44, Try.ntmps44
        go_wp2_with fail
        go_ret
        exact ⟨by rw [hf.out]; rfl, rfl⟩
    · skip
      have hf : Hid (r = sxAll sxDig s) := by
        unfold Hid; rw [hr]; unfold sxNum; rw [e]
        have h1 : (c.toNat == 48) = false := beq_eq_false_iff_ne.2 (fun h => hc (UInt8.toNat_inj.1 h))
        have h2 : (c.toNat != 48) = true := by rw [bne, h1]; rfl
        simp only [h1, h2, Bool.false_and, Bool.false_or, Bool.true_and]
      have hne : s.toList ≠ [48] := by
        rw [Lib.toList_data, e]
        intro h
        injection h with h1 h2
        exact hc h1
      have hnb : (s.toList == [48]) = false := beq_eq_false_iff_ne.2 hne
      have hz : (((s[0]'hp).toNat : Int) != 48) = true := by
        rw [bne_iff_ne]
        intro h
        have h2 : (s[0]'hp).toNat = 48 := by omega
        rw [← ec] at h2
        exact hc (UInt8.toNat_inj.1 h2)
      clear hr e ec hc hne
      generalize sxAll sxDig s = al at *
      go_enter Try.func44, Try.ntmps44
      go_wp2_with fail
      refine Ha.out.mono ?_
      rintro e w' ⟨rfl, rfl⟩
      go_wp2_with fail
      go_ret
      exact ⟨by rw [hf.out]; rfl, rfl⟩
end Go.Proofs.Ytcpkejonpnmljaa
/- (*sexp.reader).rest, innermost: what they read. -/
namespace Go.Proofs.Ytcpkejonpnmljaa
open Go.RowKit

def SxDrawn (v : Value) (w : World) (e : Ending) (w' : World) : Prop := e = .returned v ∧ ∃ n, w' = w.drewN n

set_option maxRecDepth 100000 in
set_option maxHeartbeats 1600000 in
theorem rest_any (g : Nat) (s : ByteArray) (at_ skip : Nat) (w : World) (c0 : w.cell? ⟨g, 0, none⟩ = some (.string s)) (c1 : w.cell? ⟨g, 1, none⟩ = some (.int .i64 (at_ : Nat))) (h : at_ + skip ≤ s.size) (hs : s.size ≤ 9223372036854775807) :
    Calls Try.prog 50 #[.pointer (some ⟨g, 0, none⟩), .int .i64 (skip : Nat)] w (SxDrawn (.string (s.extract (at_ + skip) s.size)) w) := by
  have hw : IntKind.i64.wrap ((at_ : Int) + (skip : Int)) = (at_ : Int) + (skip : Int) := IntWalk.i64_in _ (by omega)
  have h0 : (0 : Int) ≤ (at_ : Int) + (skip : Int) := by omega
  have h1 : ((at_ : Int) + (skip : Int)).toNat = at_ + skip := by omega
  have h2 : (at_ : Int) + (skip : Int) ≤ (s.size : Int) := by omega
  go_enter Try.func50, Try.ntmps50
  go_wp2_with fail
  go_quiet (fail)
  go_wp2
  go_ret
  exact ⟨rfl, _, rfl⟩

set_option maxRecDepth 100000 in
set_option maxHeartbeats 1600000 in
theorem innermost_any (g gl n cap : Nat) (w : World) (c2 : w.cell? ⟨g, 2, none⟩ = some (.slice (some ⟨gl, 0, none⟩) (n + 1) cap)) (hn : n ≤ 9223372036854775806) :
    Calls Try.prog 24 #[.pointer (some ⟨g, 0, none⟩)] w (SxDrawn (.pointer (some ⟨gl, n * 2, none⟩)) w) := by
  have hw : IntKind.i64.wrap (((n + 1 : Nat) : Int) - 1) = (n : Nat) := by rw [IntWalk.i64_in _ (by omega)]; omega
  have h0 : (0 : Int) ≤ (n : Int) := by omega
  have h1 : ((n : Int)).toNat = n := by omega
  have h2 : (n : Int) < ((n + 1 : Nat) : Int) := by omega
  go_enter Try.func24, Try.ntmps24
  go_wp2_with fail
  go_quiet (fail)
  go_wp2
  go_ret
  exact ⟨rfl, _, rfl⟩
end Go.Proofs.Ytcpkejonpnmljaa
/- What a reader of expressions has in memory: its record, its open lists, the expressions that are read. -/
namespace Go.Proofs.Ytcpkejonpnmljaa
open Go.RowKit

/-- an expression: kind, place, text, parts -/
inductive Ex where
  | mk (kind at_ : Nat) (text : ByteArray) (parts : List Ex)
def Ex.kind : Ex → Nat | .mk k _ _ _ => k
def Ex.at_ : Ex → Nat | .mk _ a _ _ => a
def Ex.text : Ex → ByteArray | .mk _ _ t _ => t
def Ex.parts : Ex → List Ex | .mk _ _ _ p => p
def exCells (e : Ex) (v : Value) : List Value := [.int .i64 (e.kind : Nat), .int .i64 (e.at_ : Nat), .string e.text, v]
/-- the cells of a row of expressions; vs: the slices of their parts -/
def exRow : List Ex → List Value → List Value
  | e :: l, v :: vs => exCells e v ++ exRow l vs
  | _, _ => []
theorem exRow_length : ∀ (l : List Ex) (vs : List Value), l.length = vs.length → (exRow l vs).length = l.length * 4
  | [], [], _ => rfl
  | e :: l, v :: vs, h => by
    have := exRow_length l vs (by simpa using h)
    simp only [exRow, exCells, List.length_append, List.length_cons, List.length_nil, this]
    omega
theorem exRow_snoc : ∀ (l : List Ex) (vs : List Value) (e : Ex) (v : Value), l.length = vs.length → exRow (l ++ [e]) (vs ++ [v]) = exRow l vs ++ exCells e v
  | [], [], e, v, _ => by simp [exRow]
  | a :: l, u :: vs, e, v, h => by
    have := exRow_snoc l vs e v (by simpa using h)
    simp only [List.cons_append, exRow, this, List.append_assoc]
/-- the slice v reads as the expressions l, in blocks of D -/
inductive RowAt (w : World) (D : Nat → Prop) : Value → List Ex → Prop
  | nil : RowAt w D (.slice none 0 0) []
  | row (b off n cap : Nat) (l : List Ex) (vs : Nat → Value) (hn : n = l.length) (hD : D b)
      (h0 : ∀ i (h : i < l.length), w.cell? ⟨b, off + i * 4, none⟩ = some (.int .i64 ((l[i]'h).kind : Nat)))
      (h1 : ∀ i (h : i < l.length), w.cell? ⟨b, off + i * 4 + 1, none⟩ = some (.int .i64 ((l[i]'h).at_ : Nat)))
      (h2 : ∀ i (h : i < l.length), w.cell? ⟨b, off + i * 4 + 2, none⟩ = some (.string (l[i]'h).text))
      (h3 : ∀ i (h : i < l.length), w.cell? ⟨b, off + i * 4 + 3, none⟩ = some (vs i))
      (hp : ∀ i (h : i < l.length), RowAt w D (vs i) (l[i]'h).parts) : RowAt w D (.slice (some ⟨b, off, none⟩) n cap) l
theorem RowAt.keep {w w' : World} {D D' : Nat → Prop} {v : Value} {l : List Ex} (h : RowAt w D v l) (hD : ∀ b, D b → D' b ∧ ∀ o, w'.cell? ⟨b, o, none⟩ = w.cell? ⟨b, o, none⟩) : RowAt w' D' v l := by
  induction h with
  | nil => exact .nil
  | row b off n cap l vs hn hDb h0 h1 h2 h3 _ ih =>
    have hb := hD b hDb
    exact .row b off n cap l vs hn hb.1 (fun i h => (hb.2 _).trans (h0 i h)) (fun i h => (hb.2 _).trans (h1 i h)) (fun i h => (hb.2 _).trans (h2 i h)) (fun i h => (hb.2 _).trans (h3 i h)) ih

/-- a list that is open: where it began, the slice of its parts, its parts -/
structure Lv where
  at_ : Nat
  v : Value
  l : List Ex
def lvCells (ls : List Lv) : List Value := ls.flatMap fun x => [.int .i64 (x.at_ : Nat), x.v]
theorem lvCells_length (ls : List Lv) : (lvCells ls).length = ls.length * 2 := by
  induction ls with
  | nil => rfl
  | cons a l ih => simp only [lvCells, List.flatMap_cons, List.length_append, List.length_cons, List.length_nil] at *; omega
/-- blocks of expressions that no open list writes to -/
def SxOut (w : World) (ls : List Lv) (B b : Nat) : Prop := B ≤ b ∧ (∃ cs fr, w.heap[b]? = some (.cells cs 30 fr)) ∧ ∀ x ∈ ls, x.v.ownBlock ≠ some b
theorem SxOut.lt {w : World} {ls : List Lv} {B b : Nat} (h : SxOut w ls B b) : b < w.heap.size := by
  obtain ⟨-, ⟨cs, fr, h⟩, -⟩ := h
  exact (Array.getElem?_eq_some_iff.1 h).1
/-- the parts of an open list lie in a row of their own; vs: the slices of their parts -/
structure OpenAt (w : World) (B : Nat) (D : Nat → Prop) (x : Lv) (vs : List Value) : Prop where
  len : x.l.length = vs.length
  own : w.ownsRow B 30 4 x.v x.l.length (exRow x.l vs)
  rows : ∀ i (h : i < x.l.length) (h' : i < vs.length), RowAt w D (vs[i]'h') (x.l[i]'h).parts
structure RdAt (B : Nat) (w : World) (g gl cap : Nat) (s : ByteArray) (a : Nat) (ls : List Lv) : Prop where
  hd : w.heap[g]? = some (.cells #[.string s, .int .i64 (a : Nat), .slice (some ⟨gl, 0, none⟩) ls.length cap] 45 (0, 0))
  lv : w.ownsRow B 63 2 (.slice (some ⟨gl, 0, none⟩) ls.length cap) ls.length (lvCells ls)
  low : B ≤ g
  open_ : ∀ x ∈ ls, ∃ vs, OpenAt w B (SxOut w ls B) x vs
  apart : ls.Pairwise fun x y => x.v.ownBlock = none ∨ x.v.ownBlock ≠ y.v.ownBlock

theorem own_move {w w' : World} {B : Nat} {t : TypeId} {size n : Nat} {v : Value} {xs : List Value} (h : w.ownsRow B t size v n xs) (hk : ∀ k, v.ownBlock = some k → w'.heap[k]? = w.heap[k]?) : w'.ownsRow B t size v n xs := by
  refine ⟨h.1, ?_⟩
  rcases h.2 with hn | ⟨g, cap, cur, rfl, h1, hg, r⟩
  · exact .inl hn
  · exact .inr ⟨g, cap, cur, rfl, h1, (hk g rfl).trans hg, r⟩
theorem own_type {w : World} {B : Nat} {t : TypeId} {size n : Nat} {v : Value} {xs : List Value} (h : w.ownsRow B t size v n xs) {k : Nat} (hk : v.ownBlock = some k) : B ≤ k ∧ ∃ cs, w.heap[k]? = some (.cells cs t (0, 0)) := by
  rcases h.2 with ⟨rfl, _⟩ | ⟨g, cap, cur, rfl, h1, hg, _⟩
  · cases hk
  · obtain rfl : g = k := by simpa [Value.ownBlock] using hk
    exact ⟨h1, cur, hg⟩
theorem OpenAt.move {w w' : World} {B : Nat} {D D' : Nat → Prop} {x : Lv} {vs : List Value} (h : OpenAt w B D x vs) (hx : ∀ k, x.v.ownBlock = some k → w'.heap[k]? = w.heap[k]?) (hD : ∀ b, D b → D' b ∧ w'.heap[b]? = w.heap[b]?) : OpenAt w' B D' x vs :=
  ⟨h.len, own_move h.own hx, fun i hi hi' => (h.rows i hi hi').keep fun b hb => ⟨(hD b hb).1, fun o => World.cell?_of_block (a := ⟨b, o, none⟩) (hD b hb).2⟩⟩
theorem SxOut.move {w w' : World} {ls : List Lv} {B b : Nat} (h : SxOut w ls B b) (hk : w'.heap[b]? = w.heap[b]?) : SxOut w' ls B b := by
  obtain ⟨h1, ⟨cs, fr, h2⟩, h3⟩ := h
  exact ⟨h1, ⟨cs, fr, hk.trans h2⟩, h3⟩
theorem OpenAt.blk {w : World} {B : Nat} {D : Nat → Prop} {x : Lv} {vs : List Value} (h : OpenAt w B D x vs) {k : Nat} (hk : x.v.ownBlock = some k) : B ≤ k ∧ ∃ cs, w.heap[k]? = some (.cells cs 30 (0, 0)) := own_type h.own hk
theorem lt_of_heap {w : World} {b : Nat} {o : Obj} (h : w.heap[b]? = some o) : b < w.heap.size := (Array.getElem?_eq_some_iff.1 h).1
theorem RdAt.below {B g gl cap a : Nat} {w w' : World} {s : ByteArray} {ls : List Lv} (h : RdAt B w g gl cap s a ls) (hb : Below w.heap.size w w') : RdAt B w' g gl cap s a ls := by
  refine ⟨(hb.block g (lt_of_heap h.hd)).trans h.hd, own_move h.lv fun k hk => ?_, h.low, fun x hx => ?_, h.apart⟩
  · obtain ⟨-, cs, hc⟩ := own_type h.lv hk
    exact hb.block k (lt_of_heap hc)
  · obtain ⟨vs, ho⟩ := h.open_ x hx
    refine ⟨vs, ho.move (fun k hk => ?_) fun b hD => ⟨hD.move (hb.block b hD.lt), hb.block b hD.lt⟩⟩
    obtain ⟨-, cs, hc⟩ := ho.blk hk
    exact hb.block k (lt_of_heap hc)
theorem RowAt.kept {w w' : World} {ls : List Lv} {B : Nat} {v : Value} {l : List Ex} (h : RowAt w (SxOut w ls B) v l) (hb : Below w.heap.size w w') : RowAt w' (SxOut w' ls B) v l :=
  h.keep fun b hD => ⟨hD.move (hb.block b hD.lt), fun o => World.cell?_of_block (a := ⟨b, o, none⟩) (hb.block b hD.lt)⟩

/-- blocks of other types stay as they are -/
def Kept (w w' : World) : Prop := ∀ (b : Nat) (cs : Array Value) (t : TypeId) (fr : Nat × Nat), w.heap[b]? = some (Obj.cells cs t fr) → t ≠ 30 → t ≠ 63 → t ≠ 45 → w'.heap[b]? = w.heap[b]?
structure Fr (B : Nat) (w w' : World) : Prop where
  bel : Below B w w'
  kept : Kept w w'
theorem Kept.trans {w w' w'' : World} (h : Kept w w') (h' : Kept w' w'') : Kept w w'' := fun b cs t fr hb h1 h2 h3 => by
  have e := h b cs t fr hb h1 h2 h3
  exact (h' b cs t fr (e.trans hb) h1 h2 h3).trans e
theorem Fr.trans {B : Nat} {w w' w'' : World} (h : Fr B w w') (h' : Fr B w' w'') : Fr B w w'' := ⟨h.bel.trans h'.bel, h.kept.trans h'.kept⟩
theorem Fr.of_below {B : Nat} {w w' : World} (hB : B ≤ w.heap.size) (h : Below w.heap.size w w') : Fr B w w' := ⟨h.mono hB, fun b _ _ _ hb _ _ _ => h.block b (lt_of_heap hb)⟩
theorem Fr.refl (B : Nat) (w : World) : Fr B w w := ⟨Below.refl _ _, fun _ _ _ _ _ _ _ _ => rfl⟩
theorem Fr.drewN (B : Nat) (w : World) (n : Nat) : Fr B w (w.drewN n) := ⟨below_drewN (Below.refl _ _) _, fun _ _ _ _ _ _ _ _ => rfl⟩
theorem Fr.setRd {B g gl cap a : Nat} {w0 w : World} {s : ByteArray} {ls : List Lv} (h : Fr B w0 w) (hr : RdAt B w g gl cap s a ls) (j : Nat) (u : Value) : Fr B w0 (w.setCell ⟨g, j, none⟩ u) :=
  h.trans ⟨(Below.refl B w).setCell (p := ⟨g, j, none⟩) hr.low u, fun b cs t fr hb _ _ h3 => heap_setCell_other w ⟨g, j, none⟩ b u (by
    rintro rfl
    have := hr.hd
    rw [hb] at this
    injection this with this
    injection this with _ h4
    exact h3 h4)⟩
theorem pairwise_last {α : Type} {R : α → α → Prop} {ls : List α} {x x' : α} (h : (ls ++ [x]).Pairwise R) (hx : ∀ y ∈ ls, R y x → R y x') : (ls ++ [x']).Pairwise R := by
  rw [List.pairwise_append] at h ⊢
  refine ⟨h.1, List.pairwise_singleton _ _, fun y hy z hz => ?_⟩
  obtain rfl : z = x' := by simpa using hz
  exact hx y hy (h.2.2 y hy x (by simp))
/-- an expression more among the parts of the innermost open list -/
theorem RdAt.put {B g gl cap a : Nat} {w w3 : World} {s : ByteArray} {ls : List Lv} {x : Lv} {e : Ex} {ev v' : Value} {vs : List Value} (h : RdAt B w g gl cap s a (ls ++ [x])) (hx : OpenAt w B (SxOut w (ls ++ [x]) B) x vs)
    (hev : RowAt w (SxOut w (ls ++ [x]) B) ev e.parts) (hrest : ∀ b, b < w.heap.size → x.v.ownBlock ≠ some b → b ≠ gl → w3.heap[b]? = w.heap[b]?)
    (hlv : w3.ownsRow B 63 2 (.slice (some ⟨gl, 0, none⟩) (ls.length + 1) cap) (ls.length + 1) (lvCells (ls ++ [⟨x.at_, v', x.l ++ [e]⟩])))
    (hown : w3.ownsRow B 30 4 v' (x.l.length + 1) (exRow x.l vs ++ exCells e ev)) (hblk : v'.ownBlock = x.v.ownBlock ∨ ∃ k, v'.ownBlock = some k ∧ w.heap.size ≤ k) :
    RdAt B w3 g gl cap s a (ls ++ [⟨x.at_, v', x.l ++ [e]⟩]) := by
  have hgl : ∃ cs, w.heap[gl]? = some (.cells cs 63 (0, 0)) := (own_type h.lv (k := gl) rfl).2
  obtain ⟨lcs, hglh⟩ := hgl
  -- blocks of expressions are no levels, no reader
  have hne : ∀ k cs fr, w.heap[k]? = some (.cells cs 30 fr) → k ≠ gl ∧ k ≠ g := fun k cs fr hk => by
    constructor
    · rintro rfl; rw [hglh] at hk; simp at hk
    · rintro rfl; rw [h.hd] at hk; simp at hk
  have hout : ∀ b, SxOut w (ls ++ [x]) B b → SxOut w3 (ls ++ [⟨x.at_, v', x.l ++ [e]⟩]) B b ∧ w3.heap[b]? = w.heap[b]? := fun b hb => by
    have hb' := hb
    obtain ⟨h1, ⟨cs, fr, h2⟩, h3⟩ := hb
    have hk : w3.heap[b]? = w.heap[b]? := hrest b hb'.lt (h3 x (by simp)) (hne b cs fr h2).1
    refine ⟨⟨h1, ⟨cs, fr, hk.trans h2⟩, fun y hy => ?_⟩, hk⟩
    rw [List.mem_append] at hy
    rcases hy with hy | hy
    · exact h3 y (by simp [hy])
    · obtain rfl : y = _ := by simpa using hy
      show v'.ownBlock ≠ some b
      rcases hblk with hq | ⟨k, hq, hk2⟩
      · rw [hq]; exact h3 x (by simp)
      · rw [hq]; intro e; injection e with e; have := hb'.lt; omega
  have happ := h.apart
  rw [List.pairwise_append] at happ
  refine ⟨?_, by rw [List.length_append]; exact hlv, h.low, fun y hy => ?_, ?_⟩
  · have h1 : w3.heap[g]? = w.heap[g]? := by
      refine hrest g (lt_of_heap h.hd) (fun hk => ?_) (fun hk => ?_)
      · obtain ⟨-, cs, hc⟩ := hx.blk hk
        exact (hne g cs _ hc).2 rfl
      · have := h.hd; rw [hk, hglh] at this; simp at this
    rw [h1, h.hd]; simp
  · rw [List.mem_append] at hy
    rcases hy with hy | hy
    · obtain ⟨us, ho⟩ := h.open_ y (by simp [hy])
      refine ⟨us, ho.move (fun k hk => ?_) hout⟩
      obtain ⟨-, cs, hc⟩ := ho.blk hk
      refine hrest k (lt_of_heap hc) (fun hk2 => ?_) (hne k cs _ hc).1
      rcases happ.2.2 y hy x (by simp) with h5 | h5
      · rw [h5] at hk; cases hk
      · exact h5 (hk.trans hk2.symm)
    · obtain rfl : y = _ := by simpa using hy
      refine ⟨vs ++ [ev], ?_, ?_, ?_⟩
      · simp [hx.len]
      · rw [exRow_snoc _ _ _ _ hx.len, List.length_append]; exact hown
      · intro i hi hi'
        by_cases hil : i < x.l.length
        · have hiv : i < vs.length := by rw [← hx.len]; exact hil
          rw [List.getElem_append_left hiv]
          simp only [List.getElem_append_left hil]
          exact (hx.rows i hil hiv).keep fun b hb => ⟨(hout b hb).1, fun o => World.cell?_of_block (a := ⟨b, o, none⟩) (hout b hb).2⟩
        · have hie : i = x.l.length := by simp at hi; omega
          subst hie
          have e1 : (vs ++ [ev])[x.l.length]'hi' = ev := by simp [hx.len]
          rw [e1]
          simp only [List.getElem_concat_length]
          exact hev.keep fun b hb => ⟨(hout b hb).1, fun o => World.cell?_of_block (a := ⟨b, o, none⟩) (hout b hb).2⟩
  · refine pairwise_last h.apart fun y hy hR => ?_
    show _ ∨ y.v.ownBlock ≠ v'.ownBlock
    rcases hR with h5 | h5
    · exact .inl h5
    · rcases hblk with hq | ⟨k, hq, hk2⟩
      · rw [hq]; exact .inr h5
      · refine .inr fun e => ?_
        obtain ⟨us, ho⟩ := h.open_ y (by simp [hy])
        obtain ⟨-, cs, hc⟩ := ho.blk (e.trans hq)
        have := lt_of_heap hc
        omega
theorem lvCells_snoc (ls : List Lv) (x : Lv) : lvCells (ls ++ [x]) = lvCells ls ++ [.int .i64 (x.at_ : Nat), x.v] := by simp [lvCells]
theorem lvCells_set (ls : List Lv) (x : Lv) (v' : Value) (l' : List Ex) : (lvCells (ls ++ [x])).set (ls.length * 2 + 1) v' = lvCells (ls ++ [⟨x.at_, v', l'⟩]) := by
  rw [lvCells_snoc, lvCells_snoc, List.set_append_right _ _ (by rw [lvCells_length]; omega), lvCells_length]
  rw [show ls.length * 2 + 1 - ls.length * 2 = 1 by omega]; rfl
end Go.Proofs.Ytcpkejonpnmljaa
/- A region that draws its order, walked operation by operation under an invariant that speaks of what has come up: no branching over the orders. -/
namespace Go.Proofs.Ytcpkejonpnmljaa

theorem count_false_set (l : List Bool) (i : Nat) (h : i < l.length) (hf : l[i] = false) : (l.set i true).count false + 1 = l.count false := by
  induction l generalizing i with
  | nil => simp at h
  | cons b l ih =>
    cases i with
    | zero => simp at hf; subst hf; simp
    | succ i =>
      have := ih i (by simpa using h) (by simpa using hf)
      cases b <;> simp [List.set_cons_succ] <;> omega

/-- edges lead to lower numbers -/
def edgesDown (md : Region.Mode) (ops : Array Oper) : Bool := (List.range ops.size).all fun i => (ops[i]?).all fun o => o.after.all fun e => !Region.binds md e || decide (e.on < i)

theorem all_listed {md : Region.Mode} {ops : Array Oper} (hd : edgesDown md ops = true) {listed : Array Bool} (hs : listed.size = ops.size) (hr : Region.ready md ops listed = []) : ∀ i, i < ops.size → listed.getD i true = true := by
  intro i
  induction i using Nat.strongRecOn with
  | _ i ih =>
    intro hi
    cases hun : listed.getD i true with
    | true => rfl
    | false =>
    have : i ∈ Region.ready md ops listed := mem_ready.2 ⟨hun, ops[i], by simp [hi], fun e he hb => by
      have h1 := List.all_eq_true.1 hd i (by simpa using hi)
      have h2 : ops[i]? = some ops[i] := by simp [hi]
      rw [h2] at h1
      simp only [Option.all_some, Array.all_eq_true_iff_forall_mem] at h1
      have hlt : e.on < i := by simpa [hb] using h1 e he
      have h4 := ih e.on hlt (by omega)
      have h5 : e.on < listed.size := by omega
      simpa [Array.getD, h5] using h4⟩
    rw [hr] at this; cases this

theorem wpAny_inv {P : Program} {ops : Array Oper} {Q : Exit → Act → World → Prop} {md : Region.Mode} (I : Array Bool → Act → World → Prop) (hd : edgesDown md ops = true)
    (hstep : ∀ listed a w, listed.size = ops.size → I listed a w → ∀ i, i ∈ Region.ready md ops listed → wpOp P ops Q i (fun a' w' => I (listed.setIfInBounds i true) a' w') a w)
    (hend : ∀ listed a w, listed.size = ops.size → I listed a w → (∀ i, i < ops.size → listed.getD i true = true) → Q .normal a w) :
    ∀ (fuel : Nat) (listed : Array Bool) (a : Act) (w : World), listed.size = ops.size → listed.toList.count false ≤ fuel → I listed a w → wpAny P md ops Q fuel listed a w := by
  intro fuel
  induction fuel with
  | zero =>
    intro listed a w hs hc hI
    have hr : Region.ready md ops listed = [] := by
      cases hr : Region.ready md ops listed with
      | nil => rfl
      | cons i is =>
        have hm : i ∈ Region.ready md ops listed := by rw [hr]; simp
        obtain ⟨hun, o, ho, -⟩ := mem_ready.1 hm
        have hi : i < listed.size := by rw [hs]; exact (Array.getElem?_eq_some_iff.1 ho).1
        have hmem : false ∈ listed.toList := by
          have : listed[i] = false := by simpa [Array.getD, hi] using hun
          rw [← this]; simp
        have := List.count_pos_iff.2 hmem
        omega
    exact ⟨hr, hend _ _ _ hs hI (all_listed hd hs hr)⟩
  | succ fuel ih =>
    intro listed a w hs hc hI
    refine ⟨fun hr => hend _ _ _ hs hI (all_listed hd hs hr), fun i hi => ?_⟩
    obtain ⟨hun, o, ho, -⟩ := mem_ready.1 hi
    have hil : i < listed.size := by rw [hs]; exact (Array.getElem?_eq_some_iff.1 ho).1
    have hf : listed.toList[i] = false := by simpa [Array.getD, hil] using hun
    have hcount := count_false_set listed.toList i (by simpa using hil) hf
    refine wpOp_mono (fun a' w' h => ih _ a' w' (by simpa using hs) ?_ h) (hstep listed a w hs hI i hi)
    simp only [Array.toList_setIfInBounds]
    omega

/-- The invariant rule at a region: it holds at the beginning with nothing listed. -/
theorem wp_region_inv {P : Program} {ops : Array Oper} {Q : Exit → Act → World → Prop} {id : Nat} {a : Act} {w : World} (I : Array Bool → Act → World → Prop) (hm : P.follows .mixedOrders = true) (hd : edgesDown .any ops = true)
    (h0 : I (Array.replicate ops.size false) a w.drew)
    (hstep : ∀ i o, ops[i]? = some o → ∀ listed a w, listed.size = ops.size → I listed a w → listed.getD i true = false → (∀ e ∈ o.after, Region.binds .any e = true → listed.getD e.on false = true) →
      ∀ K : Act → World → Prop, Shut (∀ a w, I (listed.setIfInBounds i true) a w → K a w) → if Region.wanted o (yielded ops a.tmps) = true then Oper.wp P o a w K Q else K (a.put o.dst undef) w)
    (hend : ∀ listed a w, listed.size = ops.size → I listed a w → (∀ i, i < ops.size → listed.getD i true = true) → Q .normal a w) : (Code.region id ops true).wp P Q a w := by
  refine wp_region_any hm (wpAny_inv I hd ?_ hend ops.size _ a w.drew (by simp) (by simp) h0)
  intro listed a w hs hI i hi
  obtain ⟨hun, o, ho, hall⟩ := mem_ready.1 hi
  exact wpOp_step ho (fun K hK => hstep i o ho listed a w hs hI hun hall K hK)

/-- six slots set -/
def put6 (a : Act) (d1 d2 d3 d4 d5 d6 : Tmp) (v1 v2 v3 v4 v5 v6 : Value) : Act := (((((a.put (some d1) v1).put (some d2) v2).put (some d3) v3).put (some d4) v4).put (some d5) v5).put (some d6) v6
/-- the rule with six slots that vary -/
theorem wp_region_inv6 {P : Program} {ops : Array Oper} {Q : Exit → Act → World → Prop} {id : Nat} {a0 : Act} {w : World} (d1 d2 d3 d4 d5 d6 : Tmp) (v1 v2 v3 v4 v5 v6 : Value)
    (J : Array Bool → Value → Value → Value → Value → Value → Value → World → Prop) (hm : P.follows .mixedOrders = true) (hd : edgesDown .any ops = true)
    (he : a0 = put6 a0 d1 d2 d3 d4 d5 d6 v1 v2 v3 v4 v5 v6) (h0 : J (Array.replicate ops.size false) v1 v2 v3 v4 v5 v6 w.drew)
    (hstep : ∀ i o, ops[i]? = some o → ∀ listed s1 s2 s3 s4 s5 s6 w, listed.size = ops.size → J listed s1 s2 s3 s4 s5 s6 w → listed.getD i false = false → (∀ e ∈ o.after, Region.binds .any e = true → listed.getD e.on false = true) →
      ∀ K : Act → World → Prop, Shut (∀ t1 t2 t3 t4 t5 t6 w, J (listed.setIfInBounds i true) t1 t2 t3 t4 t5 t6 w → K (put6 a0 d1 d2 d3 d4 d5 d6 t1 t2 t3 t4 t5 t6) w) →
      if Region.wanted o (yielded ops (put6 a0 d1 d2 d3 d4 d5 d6 s1 s2 s3 s4 s5 s6).tmps) = true then Oper.wp P o (put6 a0 d1 d2 d3 d4 d5 d6 s1 s2 s3 s4 s5 s6) w K Q else K ((put6 a0 d1 d2 d3 d4 d5 d6 s1 s2 s3 s4 s5 s6).put o.dst undef) w)
    (hend : ∀ listed s1 s2 s3 s4 s5 s6 w, listed.size = ops.size → J listed s1 s2 s3 s4 s5 s6 w → (∀ i, i < ops.size → listed.getD i true = true) → Q .normal (put6 a0 d1 d2 d3 d4 d5 d6 s1 s2 s3 s4 s5 s6) w) : (Code.region id ops true).wp P Q a0 w := by
  refine wp_region_inv (fun L a w => ∃ s1 s2 s3 s4 s5 s6, a = put6 a0 d1 d2 d3 d4 d5 d6 s1 s2 s3 s4 s5 s6 ∧ J L s1 s2 s3 s4 s5 s6 w) hm hd ⟨_, _, _, _, _, _, he, h0⟩ ?_ ?_
  · rintro i o ho L a w hs ⟨s1, s2, s3, s4, s5, s6, rfl, hJ⟩ hun hall K hK
    refine hstep i o ho L s1 s2 s3 s4 s5 s6 w hs hJ ?_ hall K (fun t1 t2 t3 t4 t5 t6 w h => hK.out _ _ ⟨_, _, _, _, _, _, rfl, h⟩)
    by_cases hi : i < L.size
    · simpa [Array.getD, hi] using hun
    · simp [Array.getD, hi]
  · rintro L a w hs ⟨s1, s2, s3, s4, s5, s6, rfl, hJ⟩ hall
    exact hend L s1 s2 s3 s4 s5 s6 w hs hJ hall

end Go.Proofs.Ytcpkejonpnmljaa
/- A region that draws its order: each operation is shown once to give its own fact, which lasts; the stores come last, one by one. -/
namespace Go.Proofs.Ytcpkejonpnmljaa
open Go.RowKit

/-- a fact of a slot's value that lasts while memory grows -/
structure SFact where
  P : Value → World → Prop
  st : ∀ v w w', P v w → Below w.heap.size w w' → P v w'
def putAll (a : Act) : List Tmp → List Value → Act
  | d :: ds, v :: vs => putAll (a.put (some d) v) ds vs
  | _, _ => a
/-- i waits for j, by at most so many steps -/
def reach (md : Region.Mode) (ops : Array Oper) : Nat → Nat → Nat → Bool
  | 0, _, _ => false
  | f + 1, i, j => (ops[i]?).any fun o => (o.after.any fun e => Region.binds md e && e.on == j) || (o.after.any fun e => Region.binds md e && reach md ops f e.on j)
def storesWait (md : Region.Mode) (ops : Array Oper) (n : Nat) : Bool := (List.range ops.size).all fun i => decide (i < n) || (List.range n).all fun j => reach md ops 6 i j
def Closed (md : Region.Mode) (ops : Array Oper) (L : Array Bool) : Prop := ∀ j o, ops[j]? = some o → L.getD j false = true → ∀ e ∈ o.after, Region.binds md e = true → L.getD e.on false = true
theorem reach_listed {md : Region.Mode} {ops : Array Oper} {L : Array Bool} (hc : Closed md ops L) : ∀ (f i : Nat) (o : Oper) (j : Nat), ops[i]? = some o → (∀ e ∈ o.after, Region.binds md e = true → L.getD e.on false = true) → reach md ops f i j = true → L.getD j false = true
  | 0, _, _, _, _, _, h => by cases h
  | f + 1, i, o, j, ho, hall, h => by
    simp only [reach, ho, Option.any_some, Bool.or_eq_true] at h
    rcases h with h | h
    · obtain ⟨e, he, hb⟩ := Array.any_eq_true'.1 h
      simp only [Bool.and_eq_true, beq_iff_eq] at hb
      rw [← hb.2]; exact hall e he hb.1
    · obtain ⟨e, he, hb⟩ := Array.any_eq_true'.1 h
      simp only [Bool.and_eq_true] at hb
      have hl := hall e he hb.1
      cases hoe : ops[e.on]? with
      | none =>
        exfalso
        have h2 := hb.2
        cases f with
        | zero => cases h2
        | succ f => simp [reach, hoe] at h2
      | some o' => exact reach_listed hc f e.on o' j hoe (hc e.on o' hoe hl) hb.2
theorem getD_put {a : Act} {ds : List Tmp} {vs : List Value} {d : Tmp} {v : Value} (hd : d ∉ ds) : putAll (a.put (some d) v) ds vs = (putAll a ds vs).put (some d) v := by
  induction ds generalizing a vs with
  | nil => rfl
  | cons d' ds ih =>
    cases vs with
    | nil => rfl
    | cons v' vs =>
      simp only [putAll]
      have hne : d' ≠ d := fun e => hd (by simp [e])
      rw [Act.put_comm a v v' (x := some d) (y := some d') (by intro x hx hy; cases hx; cases hy; exact hne rfl)]
      exact ih (fun h => hd (by simp [h]))
theorem putAll_set {a : Act} {ds : List Tmp} {vs : List Value} {i : Nat} {d : Tmp} {v : Value} (hn : ds.Nodup) (hi : ds[i]? = some d) (hl : vs.length = ds.length) : (putAll a ds vs).put (some d) v = putAll a ds (vs.set i v) := by
  induction ds generalizing a vs i with
  | nil => simp at hi
  | cons d' ds ih =>
    cases vs with
    | nil => simp at hl
    | cons v' vs =>
      rw [List.nodup_cons] at hn
      cases i with
      | zero =>
        simp at hi; subst hi
        simp only [putAll, List.set_cons_zero]
        rw [← getD_put hn.1]
        congr 1
        unfold Act.put
        simp [Array.setIfInBounds_setIfInBounds]
      | succ i =>
        simp only [putAll, List.set_cons_succ]
        exact ih hn.2 (by simpa using hi) (by simpa using hl)

def dstsAre (ops : Array Oper) (n : Nat) (ds : List Tmp) : Bool := (List.range n).all fun i => (ops[i]?).all fun o => o.dst == ds[i]?
theorem getD_set_list {l : List Value} {i j : Nat} {v : Value} (h : i ≠ j) : (l.set i v).getD j undef = l.getD j undef := by
  simp [List.getD, List.getElem?_set_ne h]
theorem getD_set_list_self {l : List Value} {i : Nat} {v : Value} (h : i < l.length) : (l.set i v).getD i undef = v := by
  simp [List.getD, h]

theorem wpAny_facts {P : Program} {ops : Array Oper} {Q : Exit → Act → World → Prop} {a0 : Act} {w0 : World} (n s : Nat) (hsize : ops.size = n + s) (ds : List Tmp) (f : Nat → SFact) (al : List Nat)
    (hd : edgesDown .any ops = true) (hsw : storesWait .any ops n = true) (hdn : ds.Nodup) (hlen : ds.length = n) (hds : dstsAre ops n ds = true)
    (hal : ∀ i ∈ al, ∀ v w, (f i).P v w → ∃ g, v = .pointer (some ⟨g, 0, none⟩) ∧ g < w.heap.size)
    (hstep : ∀ i o, i < n → ops[i]? = some o → ∀ vs w, vs.length = n → Below w0.heap.size w0 w → (∀ e ∈ o.after, Region.binds .any e = true → (f e.on).P (vs.getD e.on undef) w) →
      ∀ K : Act → World → Prop, Shut (∀ v w', (f i).P v w' → Below w.heap.size w w' → (i ∈ al → v = .pointer (some ⟨w.heap.size, 0, none⟩)) → K ((putAll a0 ds vs).put o.dst v) w') →
        if Region.wanted o (yielded ops (putAll a0 ds vs).tmps) = true then Oper.wp P o (putAll a0 ds vs) w K Q else K ((putAll a0 ds vs).put o.dst undef) w)
    (hend : ∀ vs w, vs.length = n → Below w0.heap.size w0 w → (∀ i, i < n → (f i).P (vs.getD i undef) w) → (∀ i ∈ al, ∀ j ∈ al, i ≠ j → vs.getD i undef ≠ vs.getD j undef) →
      wpAny P .any ops Q s ((List.replicate n true ++ List.replicate s false).toArray) (putAll a0 ds vs) w) :
    ∀ (c : Nat) (L : Array Bool) (vs : List Value) (w : World), (L.toList.take n).count false = c → L.size = n + s → (∀ j, n ≤ j → j < n + s → L.getD j true = false) → Closed .any ops L → vs.length = n → Below w0.heap.size w0 w →
      (∀ i, i < n → L.getD i false = true → (f i).P (vs.getD i undef) w) → (∀ i ∈ al, ∀ j ∈ al, i < n → j < n → i ≠ j → L.getD i false = true → L.getD j false = true → vs.getD i undef ≠ vs.getD j undef) →
      (∀ i ∈ al, i < n) → wpAny P .any ops Q (c + s) L (putAll a0 ds vs) w := by
  intro c
  induction c with
  | zero =>
    intro L vs w hc hs hst hcl hvl hb hf hdist haln
    have hall : ∀ i, i < n → L.getD i false = true := fun i hi => by
      have hil : i < L.size := by omega
      cases hb : L[i] with
      | true => simp [Array.getD, hil, hb]
      | false =>
        exfalso
        have hmem : false ∈ L.toList.take n := by
          rw [List.mem_take_iff_getElem]
          exact ⟨i, by simp; omega, by simpa using hb⟩
        have := List.count_pos_iff.2 hmem
        omega
    have hL : L = (List.replicate n true ++ List.replicate s false).toArray := by
      apply Array.ext
      · simp [hs]
      · intro i hi hi2
        by_cases h : i < n
        · have := hall i h
          simp only [Array.getD, hi] at this
          simp [h]
          simpa using this
        · have := hst i (by omega) (by omega)
          simp only [Array.getD, hi] at this
          simp [List.getElem_append, h]
          simpa using this
    rw [Nat.zero_add, hL]
    exact hend vs w hvl hb (fun i hi => hf i hi (hall i hi)) (fun i hi j hj hne => hdist i hi j hj (haln i hi) (haln j hj) hne (hall i (haln i hi)) (hall j (haln j hj)))
  | succ c ih =>
    intro L vs w hc hs hst hcl hvl hb hf hdist haln
    have hnot : ¬ ∀ i, i < n → L.getD i false = true := fun hall => by
      have : (L.toList.take n).count false = 0 := by
        rw [List.count_eq_zero]
        intro hmem
        rw [List.mem_take_iff_getElem] at hmem
        obtain ⟨i, hi, hif⟩ := hmem
        have hi' : i < L.size := by simp at hi; omega
        have := hall i (by simp at hi; omega)
        have h2 : L.getD i false = L[i] := by simp [Array.getD, hi']
        rw [h2] at this
        rw [Array.getElem_toList] at hif
        rw [hif] at this
        cases this
      omega
    rw [show c + 1 + s = (c + s) + 1 by omega]
    refine ⟨fun hr => ?_, fun i hi => ?_⟩
    · exfalso
      apply hnot
      intro i hi
      have := all_listed hd (by rw [hs, hsize]) hr i (by omega)
      have hil : i < L.size := by omega
      simpa [Array.getD, hil] using this
    · obtain ⟨hun, o, ho, hall⟩ := mem_ready.1 hi
      have hio : i < ops.size := (Array.getElem?_eq_some_iff.1 ho).1
      have hil : i < L.size := by omega
      have hin : i < n := by
        rcases Nat.lt_or_ge i n with h | h
        · exact h
        · exfalso
          apply hnot
          intro j hj
          have h1 := List.all_eq_true.1 hsw i (by simpa using hio)
          simp only [Bool.or_eq_true, decide_eq_true_eq] at h1
          rcases h1 with h1 | h1
          · omega
          · exact reach_listed hcl 6 i o j ho hall (List.all_eq_true.1 h1 j (by simpa using hj))
      have hdst : o.dst = ds[i]? := by
        have h1 := List.all_eq_true.1 hds i (by simpa using hin)
        rw [ho] at h1
        simpa using h1
      have hdi : ds[i]? = some (ds[i]'(by omega)) := by simp
      refine wpOp_step ho (fun K hK => hstep i o hin ho vs w hvl hb (fun e he hbd => ?_) K (fun v w' hv hb' hp => ?_))
      · have hl := hall e he hbd
        have hlt : e.on < n := by
          rcases Nat.lt_or_ge e.on n with h | h
          · exact h
          · exfalso
            rcases Nat.lt_or_ge e.on (n + s) with h2 | h2
            · have := hst e.on h h2
              have hl2 : e.on < L.size := by omega
              simp only [Array.getD, hl2] at this hl
              simp at this hl
              rw [this] at hl; cases hl
            · have : ¬ e.on < L.size := by omega
              simp [Array.getD, this] at hl
        exact hf e.on hlt hl
      · apply hK
        rw [hdst, hdi, putAll_set hdn hdi (by omega)]
        have hset : ∀ j, i ≠ j → (L.setIfInBounds i true).getD j false = L.getD j false := fun j h => getD_set_ne false h
        refine ih (L.setIfInBounds i true) (vs.set i v) w' ?_ (by simpa using hs) ?_ ?_ (by simpa using hvl) (hb.trans (hb'.mono hb.size)) ?_ ?_ haln
        · have hf' : (L.toList.take n)[i]'(by simp; omega) = false := by
            simp only [List.getElem_take]
            simpa [Array.getD, hil] using hun
          have := count_false_set (L.toList.take n) i (by simp; omega) hf'
          rw [Array.toList_setIfInBounds, ← List.take_set] at *
          omega
        · intro j hj hj2
          rw [getD_set_ne true (by omega)]
          exact hst j hj hj2
        · intro j o' hjo hjl e he hbd
          by_cases hji : i = j
          · subst hji
            rw [ho] at hjo
            cases hjo
            exact getD_set_true (hall e he hbd)
          · rw [hset j hji] at hjl
            exact getD_set_true (hcl j o' hjo hjl e he hbd)
        · intro j hj hjl
          by_cases hji : i = j
          · subst hji
            rw [getD_set_list_self (by omega)]
            exact hv
          · rw [hset j hji] at hjl
            rw [getD_set_list hji]
            exact (f j).st _ _ _ (hf j hj hjl) hb'
        · intro j hj k hk hjn hkn hjk hjl hkl
          have old : ∀ x, x ∈ al → x < n → i ≠ x → (L.setIfInBounds i true).getD x false = true → vs.getD x undef ≠ .pointer (some ⟨w.heap.size, 0, none⟩) := fun x hx hxn hix hxl => by
            rw [hset x hix] at hxl
            obtain ⟨g, hg, hgl⟩ := hal x hx _ _ (hf x hxn hxl)
            rw [hg]
            intro e
            injection e with e
            injection e with e
            injection e with e
            omega
          by_cases hji : i = j
          · subst hji
            rw [getD_set_list_self (by omega), getD_set_list hjk, hp hj]
            exact (old k hk hkn hjk hkl).symm
          · by_cases hki : i = k
            · subst hki
              rw [getD_set_list_self (by omega), getD_set_list hji, hp hk]
              exact old j hj hjn hji hjl
            · rw [getD_set_list hji, getD_set_list hki]
              rw [hset j hji] at hjl
              rw [hset k hki] at hkl
              exact hdist j hj k hk hjn hkn hjk hjl hkl

theorem wp_region_facts {P : Program} {ops : Array Oper} {Q : Exit → Act → World → Prop} {id : Nat} {a0 : Act} {w0 : World} (n s : Nat) (ds : List Tmp) (vs0 : List Value) (f : Nat → SFact) (al : List Nat) (hm : P.follows .mixedOrders = true)
    (hsize : ops.size = n + s) (hd : edgesDown .any ops = true) (hsw : storesWait .any ops n = true) (hdn : ds.Nodup) (hlen : ds.length = n) (hds : dstsAre ops n ds = true) (hv0 : vs0.length = n) (haln : ∀ i ∈ al, i < n)
    (he : a0 = putAll a0 ds vs0) (hal : ∀ i ∈ al, ∀ v w, (f i).P v w → ∃ g, v = .pointer (some ⟨g, 0, none⟩) ∧ g < w.heap.size)
    (hstep : ∀ i o, i < n → ops[i]? = some o → ∀ vs w, vs.length = n → Below w0.heap.size w0 w → (∀ e ∈ o.after, Region.binds .any e = true → (f e.on).P (vs.getD e.on undef) w) →
      ∀ K : Act → World → Prop, Shut (∀ v w', (f i).P v w' → Below w.heap.size w w' → (i ∈ al → v = .pointer (some ⟨w.heap.size, 0, none⟩)) → K ((putAll a0 ds vs).put o.dst v) w') →
        if Region.wanted o (yielded ops (putAll a0 ds vs).tmps) = true then Oper.wp P o (putAll a0 ds vs) w K Q else K ((putAll a0 ds vs).put o.dst undef) w)
    (hend : ∀ vs w, vs.length = n → Below w0.heap.size w0 w → (∀ i, i < n → (f i).P (vs.getD i undef) w) → (∀ i ∈ al, ∀ j ∈ al, i ≠ j → vs.getD i undef ≠ vs.getD j undef) →
      wpAny P .any ops Q s ((List.replicate n true ++ List.replicate s false).toArray) (putAll a0 ds vs) w) : (Code.region id ops true).wp P Q a0 w0 := by
  refine wp_region_any hm ?_
  have := wpAny_facts (a0 := a0) (w0 := w0) n s hsize ds f al hd hsw hdn hlen hds hal hstep hend n (Array.replicate ops.size false) vs0 w0.drew
    (by rw [hsize]; simp [List.take_replicate, Nat.min_eq_left (Nat.le_add_right n s)]) (by simp [hsize]) (by intro j hj hj2; simp [Array.getD, hsize, hj2]) (by intro j o _ h; simp [Array.getD] at h) hv0 ((Below.refl _ _).drew)
    (by intro i _ h; simp [Array.getD] at h) (by intro i _ j _ _ _ _ h; simp [Array.getD] at h) haln
  rw [← he, ← hsize] at this
  exact this
theorem wpAny_one {P : Program} {ops : Array Oper} {Q : Exit → Act → World → Prop} {md : Region.Mode} {i fuel : Nat} {o : Oper} {listed : Array Bool} {a : Act} {w : World} (hr : Region.ready md ops listed = [i]) (ho : ops[i]? = some o)
    (h : ∀ K : Act → World → Prop, Shut (∀ a w, wpAny P md ops Q fuel (listed.setIfInBounds i true) a w → K a w) → if Region.wanted o (yielded ops a.tmps) = true then Oper.wp P o a w K Q else K (a.put o.dst undef) w) : wpAny P md ops Q (fuel + 1) listed a w := by
  refine ⟨fun h0 => (by rw [hr] at h0; cases h0), ?_⟩
  rw [hr]
  intro j hj
  obtain rfl : j = i := by simpa using hj
  exact wpOp_step ho (fun K hK => h K hK)
end Go.Proofs.Ytcpkejonpnmljaa
