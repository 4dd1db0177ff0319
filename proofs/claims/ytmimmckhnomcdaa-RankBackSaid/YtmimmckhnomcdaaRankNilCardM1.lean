/- Texts put together: RkMath, Big, Mem, Own, Apart, Mem2, Inv, Facts, Step, RkMem, RkLess, Lens, RkSwap, Write, RkApp, RkPush, RkPop, RkUp, RkDown, RkHeap, RkModel, RkHPop, RkCalls, RkPut, RkLight, RkBump, RkGrow, RkNew, RkFixed. -/
import Derived.Test.YtmimmckhnomcdaaProg
import Derived.WalkKit
import Derived.WalkSpells
import Derived.Deep.QuietTactic
import Derived.BigQuiet
import Derived.WalkSmall
import Derived.Laws.AppendOwnNone
import Derived.Deep.RegionHeld3
import Derived.Maps.AppendAt
import Derived.IntWalk
import Derived.Deep.DeepCutAuto
import Derived.BigRegion
/- Heaps over lists, in plain words: an order of variables by weights; what swaps up and down make of a heap. -/
namespace Go.Proofs.Ytmimmckhnomcdaa

/-- an order: lt a b says that a comes ahead of b -/
structure LtOk (lt : Nat → Nat → Prop) : Prop where
  asym : ∀ a b, lt a b → ¬ lt b a
  trans : ∀ a b c, lt a b → lt b c → lt a c
  le : ∀ a b c, ¬ lt b a → ¬ lt c b → ¬ lt c a
def swapF (f : Nat → Nat) (i j k : Nat) : Nat := if k = j then f i else if k = i then f j else f k
def HeapFrom (lt : Nat → Nat → Prop) (f : Nat → Nat) (n i0 : Nat) : Prop := ∀ k, 0 < k → k < n → i0 ≤ (k - 1) / 2 → ¬ lt (f k) (f ((k - 1) / 2))
structure DownInv (lt : Nat → Nat → Prop) (f : Nat → Nat) (n i0 i : Nat) : Prop where
  le : i0 ≤ i
  oth : ∀ k, 0 < k → k < n → i0 ≤ (k - 1) / 2 → (k - 1) / 2 ≠ i → ¬ lt (f k) (f ((k - 1) / 2))
  grand : ∀ k, 0 < k → k < n → (k - 1) / 2 = i → i0 < i → i0 ≤ (i - 1) / 2 → ¬ lt (f k) (f ((i - 1) / 2))
structure UpInv (lt : Nat → Nat → Prop) (f : Nat → Nat) (n j : Nat) : Prop where
  oth : ∀ k, 0 < k → k < n → k ≠ j → ¬ lt (f k) (f ((k - 1) / 2))
  grand : ∀ k, 0 < k → k < n → (k - 1) / 2 = j → 0 < j → ¬ lt (f k) (f ((j - 1) / 2))
variable {lt : Nat → Nat → Prop} {f : Nat → Nat} {n i0 i j : Nat}
theorem DownInv.start (h : HeapFrom lt f n (i + 1)) : DownInv lt f n i i :=
  ⟨Nat.le_refl _, fun k h0 hk hp hne => h k h0 hk (by omega), fun _ _ _ _ h => absurd h (Nat.lt_irrefl _)⟩
theorem DownInv.step (L : LtOk lt) (h : DownInv lt f n i0 i) (hj : j = 2 * i + 1 ∨ j = 2 * i + 2) (hjn : j < n) (hlt : lt (f j) (f i)) (hs : ∀ k, 0 < k → k < n → (k - 1) / 2 = i → ¬ lt (f k) (f j)) :
    DownInv lt (swapF f i j) n i0 j := by
  have hji : (j - 1) / 2 = i := by omega
  have hij : i ≠ j := by omega
  refine ⟨by have := h.le; omega, fun k h0 hk hp hne => ?_, fun k h0 hk hp h1 h2 => ?_⟩
  · unfold swapF
    have hpj : (k - 1) / 2 ≠ j := hne
    rw [if_neg hpj]
    by_cases hpi : (k - 1) / 2 = i
    · rw [if_pos hpi]
      by_cases hkj : k = j
      · rw [if_pos hkj]; exact L.asym _ _ hlt
      · rw [if_neg hkj, if_neg (by omega)]; exact hs k h0 hk hpi
    · rw [if_neg hpi]
      have hkj : k ≠ j := by rintro rfl; exact hpi hji
      rw [if_neg hkj]
      by_cases hki : k = i
      · subst hki; rw [if_pos rfl]
        have := h.grand j (by omega) hjn hji (by omega) (by omega)
        exact this
      · rw [if_neg hki]; exact h.oth k h0 hk hp hpi
  · unfold swapF
    rw [hji, if_neg hij, if_pos rfl, if_neg (by omega), if_neg (by omega)]
    have := h.oth k h0 hk (by omega) (by omega)
    rw [hp] at this
    exact this
theorem DownInv.stop (h : DownInv lt f n i0 i) (hs : ∀ k, 0 < k → k < n → (k - 1) / 2 = i → ¬ lt (f k) (f i)) : HeapFrom lt f n i0 := by
  intro k h0 hk hp
  by_cases hpi : (k - 1) / 2 = i
  · rw [hpi]; exact hs k h0 hk hpi
  · exact h.oth k h0 hk hp hpi
theorem UpInv.step (L : LtOk lt) (h : UpInv lt f n j) (hj0 : 0 < j) (hjn : j < n) (hlt : lt (f j) (f ((j - 1) / 2))) : UpInv lt (swapF f ((j - 1) / 2) j) n ((j - 1) / 2) := by
  obtain ⟨i, hi⟩ : ∃ i, i = (j - 1) / 2 := ⟨_, rfl⟩
  rw [← hi] at hlt ⊢
  have hij : i < j := by omega
  refine ⟨fun k h0 hk hne => ?_, fun k h0 hk hp hi0 => ?_⟩
  · unfold swapF
    by_cases hkj : k = j
    · subst hkj
      rw [if_pos rfl, ← hi, if_neg (by omega), if_pos rfl]; exact L.asym _ _ hlt
    · rw [if_neg hkj, if_neg hne]
      by_cases hpi : (k - 1) / 2 = i
      · rw [hpi, if_neg (by omega), if_pos rfl]
        have h1 := h.oth k h0 hk hkj
        rw [hpi] at h1
        exact fun h2 => h1 (L.trans _ _ _ h2 hlt)
      · by_cases hpj : (k - 1) / 2 = j
        · rw [if_pos hpj]
          have := h.grand k h0 hk hpj hj0
          rw [← hi] at this
          exact this
        · rw [if_neg hpj, if_neg hpi]; exact h.oth k h0 hk hkj
  · unfold swapF
    have hr : (i - 1) / 2 < i := by omega
    rw [if_neg (c := (i - 1) / 2 = j) (by omega), if_neg (c := (i - 1) / 2 = i) (by omega)]
    have hii := h.oth i hi0 (by omega) (by omega)
    by_cases hkj : k = j
    · rw [if_pos hkj]; exact hii
    · rw [if_neg hkj, if_neg (by omega)]
      have h1 := h.oth k h0 hk hkj
      rw [hp] at h1
      exact L.le _ _ _ hii h1
theorem UpInv.stop (h : UpInv lt f n j) (hs : j = 0 ∨ ¬ lt (f j) (f ((j - 1) / 2))) : HeapFrom lt f n 0 := by
  intro k h0 hk _
  by_cases hkj : k = j
  · subst hkj
    rcases hs with h | h
    · omega
    · exact h
  · exact h.oth k h0 hk hkj
theorem HeapFrom.root (L : LtOk lt) (h : HeapFrom lt f n 0) : ∀ k, k < n → ¬ lt (f k) (f 0) := by
  intro k
  induction k using Nat.strongRecOn with
  | ind k ih =>
    intro hk
    by_cases h0 : k = 0
    · subst h0; exact fun hh => L.asym _ _ hh hh
    · exact L.le _ _ _ (ih ((k - 1) / 2) (by omega) (by omega)) (h k (by omega) hk (Nat.zero_le _))
theorem HeapFrom.congr {g : Nat → Nat} (h : HeapFrom lt f n i0) (hg : ∀ k, k < n → g k = f k) : HeapFrom lt g n i0 := by
  intro k h0 hk hp
  rw [hg k hk, hg _ (by omega)]
  exact h k h0 hk hp
theorem HeapFrom.less {m : Nat} (h : HeapFrom lt f n i0) (hm : m ≤ n) : HeapFrom lt f m i0 := fun k h0 hk hp => h k h0 (by omega) hp

/-! ### lists, read by place -/
def at0 (q : List Nat) (i : Nat) : Nat := q.getD i 0
def swapL (q : List Nat) (i j : Nat) : List Nat := (q.set i (at0 q j)).set j (at0 q i)
theorem at0_eq {q : List Nat} {i : Nat} (h : i < q.length) : at0 q i = q[i] := by simp [at0, h]
theorem at0_set (q : List Nat) (i x k : Nat) (hi : i < q.length) : at0 (q.set i x) k = if k = i then x else at0 q k := by
  unfold at0
  simp only [List.getD_eq_getElem?_getD, List.getElem?_set]
  by_cases h : i = k
  · subst h; simp [hi]
  · rw [if_neg h, if_neg (by omega)]
theorem swapL_len (q : List Nat) (i j : Nat) : (swapL q i j).length = q.length := by simp [swapL]
theorem at0_swapL {q : List Nat} {i j : Nat} (hi : i < q.length) (hj : j < q.length) (k : Nat) : at0 (swapL q i j) k = swapF (at0 q) i j k := by
  unfold swapL swapF
  rw [at0_set _ _ _ _ (by simpa using hj), at0_set _ _ _ _ hi]
theorem at0_append_left {q : List Nat} {x i : Nat} (h : i < q.length) : at0 (q ++ [x]) i = at0 q i := by
  unfold at0; simp [List.getD_eq_getElem?_getD, List.getElem?_append_left h]
theorem at0_append_right {q : List Nat} {x : Nat} : at0 (q ++ [x]) q.length = x := by
  unfold at0; simp [List.getD_eq_getElem?_getD]
theorem at0_take {q : List Nat} {n i : Nat} (h : i < n) : at0 (q.take n) i = at0 q i := by
  unfold at0; simp [List.getD_eq_getElem?_getD, h]
/-- the same variables wait -/
def Same (q q' : List Nat) : Prop := q'.length = q.length ∧ ∀ v, (∃ i, i < q'.length ∧ at0 q' i = v) ↔ (∃ i, i < q.length ∧ at0 q i = v)
theorem Same.refl (q : List Nat) : Same q q := ⟨rfl, fun _ => Iff.rfl⟩
theorem Same.trans {a b c : List Nat} (h : Same a b) (k : Same b c) : Same a c := ⟨k.1.trans h.1, fun v => (k.2 v).trans (h.2 v)⟩
theorem Same.swap {q : List Nat} {i j : Nat} (hi : i < q.length) (hj : j < q.length) : Same q (swapL q i j) := by
  refine ⟨swapL_len q i j, fun v => ⟨?_, ?_⟩⟩
  · rintro ⟨k, hk, e⟩
    rw [swapL_len] at hk
    rw [at0_swapL hi hj] at e
    unfold swapF at e
    split at e
    · exact ⟨i, hi, e⟩
    · split at e
      · exact ⟨j, hj, e⟩
      · exact ⟨k, hk, e⟩
  · rintro ⟨k, hk, e⟩
    by_cases h1 : k = i
    · refine ⟨j, by rw [swapL_len]; exact hj, ?_⟩
      rw [at0_swapL hi hj]; unfold swapF; rw [if_pos rfl, ← h1]; exact e
    · by_cases h2 : k = j
      · refine ⟨i, by rw [swapL_len]; exact hi, ?_⟩
        rw [at0_swapL hi hj]; unfold swapF
        by_cases h3 : i = j
        · omega
        · rw [if_neg h3, if_pos rfl, ← h2]; exact e
      · refine ⟨k, by rw [swapL_len]; exact hk, ?_⟩
        rw [at0_swapL hi hj]; unfold swapF; rw [if_neg h2, if_neg h1]; exact e

/-! ### weights, those that wait, and their places -/
def rkLt (ws : List Nat) (v w : Nat) : Prop := at0 ws (w - 1) < at0 ws (v - 1) ∨ (at0 ws (v - 1) = at0 ws (w - 1) ∧ v < w)
instance (ws : List Nat) (v w : Nat) : Decidable (rkLt ws v w) := by unfold rkLt; exact inferInstance
theorem rkLt_ok (ws : List Nat) : LtOk (rkLt ws) := by
  refine ⟨fun a b => ?_, fun a b c => ?_, fun a b c => ?_⟩ <;> unfold rkLt <;> omega
theorem rkLt_total (ws : List Nat) {v w : Nat} (h : v ≠ w) : rkLt ws v w ∨ rkLt ws w v := by unfold rkLt; omega
structure RkOk (n : Nat) (q pl : List Nat) : Prop where
  len : pl.length = n
  here : ∀ i, i < q.length → 1 ≤ at0 q i ∧ at0 q i ≤ n ∧ at0 pl (at0 q i - 1) = i + 1
  away : ∀ v, 1 ≤ v → v ≤ n → at0 pl (v - 1) = 0 ∨ (at0 pl (v - 1) ≤ q.length ∧ at0 q (at0 pl (v - 1) - 1) = v)
theorem RkOk.inj {n : Nat} {q pl : List Nat} (h : RkOk n q pl) {i j : Nat} (hi : i < q.length) (hj : j < q.length) (e : at0 q i = at0 q j) : i = j := by
  have h1 := (h.here i hi).2.2
  have h2 := (h.here j hj).2.2
  rw [e] at h1
  omega
theorem inj_le : ∀ (m n : Nat) (f : Nat → Nat), (∀ i, i < m → f i < n) → (∀ i j, i < m → j < m → f i = f j → i = j) → m ≤ n := by
  intro m
  induction m with
  | zero => intro n f _ _; omega
  | succ m ih =>
    intro n f h1 h2
    have hm := h1 m (by omega)
    have := ih (n - 1) (fun i => if f i > f m then f i - 1 else f i) (fun i hi => by
      have a := h1 i (by omega)
      have b : f i ≠ f m := fun e => by have := h2 i m (by omega) (by omega) e; omega
      try dsimp only
      split <;> omega) (fun i j hi hj e => by
      have a : f i ≠ f m := fun e => by have := h2 i m (by omega) (by omega) e; omega
      have b : f j ≠ f m := fun e => by have := h2 j m (by omega) (by omega) e; omega
      try dsimp only at e
      apply h2 i j (by omega) (by omega)
      split at e <;> split at e <;> omega)
    omega
theorem RkOk.few {n : Nat} {q pl : List Nat} (h : RkOk n q pl) : q.length ≤ n :=
  inj_le q.length n (fun i => at0 q i - 1) (fun i hi => by have := h.here i hi; omega) (fun i j hi hj e => by
    have h1 := h.here i hi
    have h2 := h.here j hj
    try dsimp only at e
    exact h.inj hi hj (by omega))
theorem RkOk.swap {n : Nat} {q pl : List Nat} (h : RkOk n q pl) {i j : Nat} (hi : i < q.length) (hj : j < q.length) :
    RkOk n (swapL q i j) ((pl.set (at0 q j - 1) (i + 1)).set (at0 q i - 1) (j + 1)) := by
  have hI := h.here i hi
  have hJ := h.here j hj
  have hl := h.len
  have e1 : ∀ k, at0 ((pl.set (at0 q j - 1) (i + 1)).set (at0 q i - 1) (j + 1)) k = if k = at0 q i - 1 then j + 1 else if k = at0 q j - 1 then i + 1 else at0 pl k := by
    intro k
    rw [at0_set _ _ _ _ (by simp; omega), at0_set _ _ _ _ (by omega)]
  refine ⟨by simp [hl], fun k hk => ?_, fun v hv1 hv2 => ?_⟩
  · rw [swapL_len] at hk
    rw [e1, at0_swapL hi hj]
    have hK := h.here k hk
    unfold swapF
    by_cases h1 : k = j
    · rw [if_pos h1]
      exact ⟨hI.1, hI.2.1, by rw [if_pos rfl]; omega⟩
    · rw [if_neg h1]
      by_cases h2 : k = i
      · rw [if_pos h2]
        refine ⟨hJ.1, hJ.2.1, ?_⟩
        by_cases h3 : at0 q j - 1 = at0 q i - 1
        · have := h.inj hi hj (by omega); omega
        · rw [if_neg h3, if_pos rfl]; omega
      · rw [if_neg h2]
        refine ⟨hK.1, hK.2.1, ?_⟩
        rw [if_neg (fun e => h2 (h.inj hk hi (by omega))), if_neg (fun e => h1 (h.inj hk hj (by omega)))]
        exact hK.2.2
  · rw [e1, swapL_len]
    by_cases h1 : v - 1 = at0 q i - 1
    · rw [if_pos h1]
      refine .inr ⟨by omega, ?_⟩
      rw [at0_swapL hi hj]
      unfold swapF
      rw [if_pos (by omega)]
      omega
    · rw [if_neg h1]
      by_cases h2 : v - 1 = at0 q j - 1
      · rw [if_pos h2]
        refine .inr ⟨by omega, ?_⟩
        rw [at0_swapL hi hj]
        unfold swapF
        have h3 : i ≠ j := by rintro rfl; exact h1 h2
        rw [if_neg (by omega), if_pos (by omega)]
        omega
      · rw [if_neg h2]
        rcases h.away v hv1 hv2 with h3 | ⟨h3, h4⟩
        · exact .inl h3
        · by_cases h0 : at0 pl (v - 1) = 0
          · exact .inl h0
          · refine .inr ⟨h3, ?_⟩
            rw [at0_swapL hi hj]
            unfold swapF
            have n1 : at0 pl (v - 1) - 1 ≠ j := by intro e; rw [e] at h4; omega
            have n2 : at0 pl (v - 1) - 1 ≠ i := by intro e; rw [e] at h4; omega
            rw [if_neg n1, if_neg n2]
            exact h4
/-- one more stands behind all others -/
theorem RkOk.push {n v : Nat} {q pl : List Nat} (h : RkOk n q pl) (h1 : 1 ≤ v) (h2 : v ≤ n) (h0 : at0 pl (v - 1) = 0) : RkOk n (q ++ [v]) (pl.set (v - 1) (q.length + 1)) := by
  have hl := h.len
  have hn : ∀ i, i < q.length → at0 q i ≠ v := fun i hi e => by
    have := (h.here i hi).2.2
    rw [e] at this
    omega
  refine ⟨by simp [hl], fun i hi => ?_, fun u hu1 hu2 => ?_⟩
  · rw [at0_set _ _ _ _ (by omega)]
    rcases Nat.lt_or_ge i q.length with hlt | hge
    · rw [at0_append_left hlt]
      have hh := h.here i hlt
      have := hn i hlt
      rw [if_neg (by omega)]
      exact hh
    · obtain rfl : i = q.length := by simp at hi; omega
      rw [at0_append_right]
      exact ⟨h1, h2, by rw [if_pos rfl]⟩
  · rw [at0_set _ _ _ _ (by omega)]
    by_cases e : u - 1 = v - 1
    · rw [if_pos e]
      refine .inr ⟨by simp, ?_⟩
      have : u = v := by omega
      subst this
      rw [show q.length + 1 - 1 = q.length from rfl]
      exact at0_append_right
    · rw [if_neg e]
      rcases h.away u hu1 hu2 with h3 | ⟨h3, h4⟩
      · exact .inl h3
      · by_cases h00 : at0 pl (u - 1) = 0
        · exact .inl h00
        · exact .inr ⟨by simp; omega, by rw [at0_append_left (by omega)]; exact h4⟩
/-- the last one is taken away -/
theorem RkOk.drop {n m : Nat} {q pl : List Nat} (h : RkOk n q pl) (hm : q.length = m + 1) : RkOk n (q.take m) (pl.set (at0 q m - 1) 0) := by
  have hl := h.len
  have hM := h.here m (by omega)
  refine ⟨by simp [hl], fun i hi => ?_, fun u hu1 hu2 => ?_⟩
  · have hi' : i < m := by simp at hi; omega
    have hI := h.here i (by omega)
    rw [at0_take hi', at0_set _ _ _ _ (by omega)]
    have : at0 q i - 1 ≠ at0 q m - 1 := fun e => by
      have := h.inj (i := i) (j := m) (by omega) (by omega) (by omega)
      omega
    rw [if_neg this]
    exact hI
  · rw [at0_set _ _ _ _ (by omega)]
    by_cases e : u - 1 = at0 q m - 1
    · rw [if_pos e]; exact .inl rfl
    · rw [if_neg e]
      rcases h.away u hu1 hu2 with h3 | ⟨h3, h4⟩
      · exact .inl h3
      · by_cases h00 : at0 pl (u - 1) = 0
        · exact .inl h00
        · have h5 : at0 pl (u - 1) - 1 ≠ m := fun e' => by rw [e'] at h4; omega
          exact .inr ⟨by simp; omega, by rw [at0_take (by omega)]; exact h4⟩
/-- one more variable, that doesn't wait -/
theorem RkOk.grow {n : Nat} {q pl : List Nat} (h : RkOk n q pl) : RkOk (n + 1) q (pl ++ [0]) := by
  have hl := h.len
  refine ⟨by simp [hl], fun i hi => ?_, fun u hu1 hu2 => ?_⟩
  · have hh := h.here i hi
    rw [at0_append_left (by omega)]
    exact ⟨hh.1, by omega, hh.2.2⟩
  · by_cases e : u = n + 1
    · subst e
      left
      rw [show n + 1 - 1 = pl.length by omega]
      exact at0_append_right
    · rw [at0_append_left (by omega)]
      exact h.away u hu1 (by omega)
end Go.Proofs.Ytmimmckhnomcdaa
/- Plain mathematics of digit lists: the value of a list of digits, its canonical form, and how sums, differences, products and quotients of digits carry. No program is named here. -/
namespace Go.Proofs.Ytmimmckhnomcdaa.Big

/-- the value of digits, the lowest first -/
def val (B : Nat) : List Nat → Nat
  | [] => 0
  | x :: xs => x + B * val B xs

/-- all digits are below the base -/
def Small (B : Nat) (l : List Nat) : Prop := ∀ x ∈ l, x < B

/-- the digits of a number, with fuel -/
def dg (B : Nat) : Nat → Nat → List Nat
  | 0, _ => []
  | f + 1, n => if n = 0 then [] else (n % B) :: dg B f (n / B)
/-- the digits of a number, none of them above the highest that isn't 0 -/
def dig (B n : Nat) : List Nat := dg B n n
/-- how many digits -/
def sz (B n : Nat) : Nat := (dig B n).length

theorem val_nil (B : Nat) : val B [] = 0 := rfl
theorem val_cons (B x : Nat) (l : List Nat) : val B (x :: l) = x + B * val B l := rfl
theorem val_append (B : Nat) (l m : List Nat) : val B (l ++ m) = val B l + B ^ l.length * val B m := by
  induction l with
  | nil => simp [val]
  | cons x l ih => simp only [List.cons_append, val, ih, List.length_cons, Nat.pow_succ]; grind
theorem val_snoc (B : Nat) (l : List Nat) (x : Nat) : val B (l ++ [x]) = val B l + B ^ l.length * x := by
  rw [val_append]; simp [val]
theorem small_nil (B : Nat) : Small B [] := by intro x hx; cases hx
theorem small_cons {B x : Nat} {l : List Nat} (h : x < B) (hl : Small B l) : Small B (x :: l) := by
  intro y hy; cases hy with
  | head => exact h
  | tail _ hy => exact hl y hy
theorem small_append {B : Nat} {l m : List Nat} (hl : Small B l) (hm : Small B m) : Small B (l ++ m) := by
  intro y hy; rcases List.mem_append.1 hy with h | h
  · exact hl y h
  · exact hm y h
theorem small_snoc {B : Nat} {l : List Nat} {x : Nat} (hl : Small B l) (h : x < B) : Small B (l ++ [x]) :=
  small_append hl (small_cons h (small_nil B))
theorem small_left {B : Nat} {l m : List Nat} (h : Small B (l ++ m)) : Small B l := fun x hx => h x (List.mem_append_left _ hx)
theorem small_take {B : Nat} {l : List Nat} (h : Small B l) (k : Nat) : Small B (l.take k) := fun x hx => h x (List.mem_of_mem_take hx)
theorem small_drop {B : Nat} {l : List Nat} (h : Small B l) (k : Nat) : Small B (l.drop k) := fun x hx => h x (List.mem_of_mem_drop hx)
theorem small_get {B : Nat} {l : List Nat} (h : Small B l) (i : Nat) (hi : i < l.length) : l[i] < B := h _ (List.getElem_mem hi)
theorem small_getD {B : Nat} {l : List Nat} (h : Small B l) (hB : 0 < B) (i : Nat) : l[i]?.getD 0 < B := by
  cases hx : l[i]? with
  | none => simpa using hB
  | some x => simpa using h x (List.mem_of_getElem? hx)

theorem val_lt {B : Nat} (hB : 0 < B) : ∀ {l : List Nat}, Small B l → val B l < B ^ l.length
  | [], _ => by simp [val]
  | x :: l, h => by
    have h1 : x < B := h x (by simp)
    have h2 := val_lt hB (l := l) fun y hy => h y (by simp [hy])
    simp only [val, List.length_cons, Nat.pow_succ]
    have : B * val B l + B ≤ B ^ l.length * B := by
      rw [Nat.mul_comm (B ^ l.length)]; calc B * val B l + B = B * (val B l + 1) := by grind
        _ ≤ B * B ^ l.length := Nat.mul_le_mul_left _ h2
    omega
theorem val_take_drop (B : Nat) (l : List Nat) (k : Nat) (hk : k ≤ l.length) : val B l = val B (l.take k) + B ^ k * val B (l.drop k) := by
  conv => lhs; rw [← List.take_append_drop k l]
  rw [val_append, List.length_take, Nat.min_eq_left hk]
theorem take_succ' {α : Type} (l : List α) (k : Nat) (h : k < l.length) : l.take (k + 1) = l.take k ++ [l[k]] := by
  rw [List.take_succ_eq_append_getElem h]
theorem val_take_succ (B : Nat) (l : List Nat) (k : Nat) (h : k < l.length) : val B (l.take (k + 1)) = val B (l.take k) + B ^ k * l[k] := by
  rw [take_succ' l k h, val_snoc, List.length_take, Nat.min_eq_left (by omega)]
theorem val_take_ge (B : Nat) (l : List Nat) (k : Nat) (h : l.length ≤ k) : val B (l.take k) = val B l := by rw [List.take_of_length_le h]
/-- one digit more, which may lie beyond the end -/
theorem val_take_getD (B : Nat) (l : List Nat) (k : Nat) : val B (l.take (k + 1)) = val B (l.take k) + B ^ k * l[k]?.getD 0 := by
  by_cases h : k < l.length
  · rw [val_take_succ B l k h]; simp [h]
  · rw [val_take_ge _ _ _ (by omega), val_take_ge _ _ _ (by omega)]; simp [List.getElem?_eq_none (Nat.le_of_not_lt h)]
theorem val_drop_succ (B : Nat) (l : List Nat) (k : Nat) (h : k < l.length) : val B (l.drop k) = l[k] + B * val B (l.drop (k + 1)) := by
  rw [List.drop_eq_getElem_cons h, val_cons]

theorem dg_fuel {B : Nat} (hB : 2 ≤ B) : ∀ (f g n : Nat), n ≤ f → n ≤ g → dg B f n = dg B g n
  | 0, 0, n, _, _ => rfl
  | 0, g + 1, n, h, _ => by have : n = 0 := by omega
                            subst this; simp [dg]
  | f + 1, 0, n, _, h => by have : n = 0 := by omega
                            subst this; simp [dg]
  | f + 1, g + 1, n, h1, h2 => by
    simp only [dg]
    by_cases h : n = 0
    · simp [h]
    · have hd : n / B < n := Nat.div_lt_self (by omega) (by omega)
      simp only [h, if_false]
      rw [dg_fuel hB f g (n / B) (by omega) (by omega)]
theorem dig_zero (B : Nat) : dig B 0 = [] := rfl
theorem dig_pos {B : Nat} (hB : 2 ≤ B) {n : Nat} (h : 0 < n) : dig B n = (n % B) :: dig B (n / B) := by
  have hd : n / B < n := Nat.div_lt_self h (by omega)
  obtain ⟨m, rfl⟩ : ∃ m, n = m + 1 := ⟨n - 1, by omega⟩
  show dg B (m + 1) (m + 1) = _
  simp only [dg]
  rw [if_neg (by omega), dg_fuel hB m ((m + 1) / B) _ (by omega) (Nat.le_refl _)]
  rfl
theorem dig_one {B : Nat} (hB : 2 ≤ B) {n : Nat} (h : 0 < n) (hn : n < B) : dig B n = [n] := by
  rw [dig_pos hB h, Nat.mod_eq_of_lt hn, Nat.div_eq_of_lt hn, dig_zero]
theorem strong {P : Nat → Prop} (h : ∀ n, (∀ m, m < n → P m) → P n) (n : Nat) : P n := Nat.strongRecOn n h
theorem val_dig {B : Nat} (hB : 2 ≤ B) (n : Nat) : val B (dig B n) = n := by
  induction n using strong with
  | h n ih =>
    by_cases h : n = 0
    · subst h; rfl
    · have hd : n / B < n := Nat.div_lt_self (by omega) (by omega)
      rw [dig_pos hB (by omega), val_cons, ih _ hd]
      exact Nat.mod_add_div n B
theorem small_dig {B : Nat} (hB : 2 ≤ B) (n : Nat) : Small B (dig B n) := by
  induction n using strong with
  | h n ih =>
    by_cases h : n = 0
    · subst h; exact small_nil B
    · have hd : n / B < n := Nat.div_lt_self (by omega) (by omega)
      rw [dig_pos hB (by omega)]
      exact small_cons (Nat.mod_lt _ (by omega)) (ih _ hd)
theorem last_dig {B : Nat} (hB : 2 ≤ B) (n : Nat) : (h : dig B n ≠ []) → (dig B n).getLast h ≠ 0 := by
  induction n using strong with
  | h n ih =>
    intro h
    by_cases h0 : n = 0
    · subst h0; exact absurd rfl h
    · have hd : n / B < n := Nat.div_lt_self (by omega) (by omega)
      by_cases h1 : n / B = 0
      · have e : dig B n = [n % B] := by rw [dig_pos hB (by omega), h1]; rfl
        have : n % B ≠ 0 := by
          intro hm
          have := Nat.mod_add_div n B
          rw [hm, h1] at this; omega
        simp only [e, List.getLast_singleton]; exact this
      · have hne : dig B (n / B) ≠ [] := by rw [dig_pos hB (Nat.pos_of_ne_zero h1)]; simp
        have e : dig B n = (n % B) :: dig B (n / B) := dig_pos hB (by omega)
        have := ih _ hd hne
        simp only [e]
        rw [List.getLast_cons hne]; exact this
/-- a list without a nought at its end is its number's digits -/
theorem canon_last {B : Nat} (hB : 2 ≤ B) : ∀ {l : List Nat}, Small B l → (∀ h : l ≠ [], l.getLast h ≠ 0) → l = dig B (val B l)
  | [], _, _ => rfl
  | x :: l, hs, hl => by
    have hx : x < B := hs x (by simp)
    have hs' : Small B l := fun y hy => hs y (by simp [hy])
    have hl' : ∀ h : l ≠ [], l.getLast h ≠ 0 := by
      intro h; have := hl (by simp); rwa [List.getLast_cons h] at this
    have ih := canon_last hB hs' hl'
    have hpos : 0 < val B (x :: l) := by
      rw [val_cons]
      by_cases hln : l = []
      · subst hln; have := hl (by simp); simp at this; omega
      · have : val B l ≠ 0 := by
          intro h0; rw [h0] at ih; exact hln (by rw [ih]; rfl)
        have : 0 < B * val B l := Nat.mul_pos (by omega) (by omega)
        omega
    rw [dig_pos hB hpos, val_cons, Nat.add_mul_mod_self_left, Nat.mod_eq_of_lt hx, Nat.add_mul_div_left _ _ (by omega : 0 < B), Nat.div_eq_of_lt hx, Nat.zero_add, ← ih]
theorem canon {B : Nat} (hB : 2 ≤ B) {l : List Nat} (hs : Small B l) (h : l = [] ∨ B ^ (l.length - 1) ≤ val B l) : l = dig B (val B l) := by
  refine canon_last hB hs fun hne h0 => ?_
  rcases h with h | h
  · exact hne h
  · have e : l = l.dropLast ++ [0] := by rw [← h0]; exact (List.dropLast_concat_getLast hne).symm
    have hlt := val_lt (by omega : 0 < B) (l := l.dropLast) (fun y hy => hs y (List.dropLast_subset l hy))
    have e2 : val B l = val B l.dropLast := by rw [e, val_snoc]; simp
    rw [List.length_dropLast] at hlt
    omega
theorem canon_val {B : Nat} (hB : 2 ≤ B) {l : List Nat} {n : Nat} (hs : Small B l) (hv : val B l = n) (h : l = [] ∨ B ^ (l.length - 1) ≤ n) : l = dig B n := by
  subst hv; exact canon hB hs h
/-- equal values, equal digits -/
theorem dig_inj {B : Nat} (hB : 2 ≤ B) {n m : Nat} (h : dig B n = dig B m) : n = m := by
  rw [← val_dig hB n, ← val_dig hB m, h]
theorem dig_eq_nil {B : Nat} (hB : 2 ≤ B) {n : Nat} : dig B n = [] ↔ n = 0 :=
  ⟨fun h => by by_cases h0 : n = 0; exact h0; rw [dig_pos hB (by omega)] at h; simp at h, fun h => by subst h; rfl⟩

theorem sz_zero (B : Nat) : sz B 0 = 0 := rfl
theorem sz_pos {B : Nat} (hB : 2 ≤ B) {n : Nat} (h : 0 < n) : sz B n = sz B (n / B) + 1 := by unfold sz; rw [dig_pos hB h]; simp
theorem sz_eq_zero {B : Nat} (hB : 2 ≤ B) {n : Nat} : sz B n = 0 ↔ n = 0 := by
  unfold sz; rw [List.length_eq_zero_iff]; exact dig_eq_nil hB
theorem lt_pow_sz {B : Nat} (hB : 2 ≤ B) (n : Nat) : n < B ^ sz B n := by
  have := val_lt (by omega : 0 < B) (small_dig hB n); rwa [val_dig hB] at this
theorem pow_sz_le {B : Nat} (hB : 2 ≤ B) {n : Nat} (h : 0 < n) : B ^ (sz B n - 1) ≤ n := by
  induction n using strong with
  | h n ih =>
    by_cases h1 : n / B = 0
    · rw [sz_pos hB h, h1]; simp [sz_zero]; omega
    · have hd : n / B < n := Nat.div_lt_self (by omega) (by omega)
      have := ih _ hd (Nat.pos_of_ne_zero h1)
      have hsz : sz B (n / B) ≠ 0 := fun e => h1 ((sz_eq_zero hB).1 e)
      rw [sz_pos hB h, Nat.add_sub_cancel, show sz B (n / B) = sz B (n / B) - 1 + 1 by omega, Nat.pow_succ]
      calc B ^ (sz B (n / B) - 1) * B ≤ n / B * B := Nat.mul_le_mul_right _ this
        _ ≤ n := Nat.div_mul_le_self n B
theorem sz_le_of_lt {B : Nat} (hB : 2 ≤ B) {n k : Nat} (h : n < B ^ k) : sz B n ≤ k := by
  by_cases h0 : n = 0
  · subst h0; rw [sz_zero]; omega
  · have h1 := pow_sz_le hB (n := n) (by omega)
    have h2 : B ^ (sz B n - 1) < B ^ k := Nat.lt_of_le_of_lt h1 h
    have := (Nat.pow_lt_pow_iff_right (a := B) (by omega)).1 h2
    omega
theorem sz_mono {B : Nat} (hB : 2 ≤ B) {n m : Nat} (h : n ≤ m) : sz B n ≤ sz B m :=
  sz_le_of_lt hB (Nat.lt_of_le_of_lt h (lt_pow_sz hB m))
theorem sz_val {B : Nat} (hB : 2 ≤ B) {l : List Nat} (hs : Small B l) : sz B (val B l) ≤ l.length :=
  sz_le_of_lt hB (val_lt (by omega) hs)
theorem sz_mul {B : Nat} (hB : 2 ≤ B) (n m : Nat) : sz B (n * m) ≤ sz B n + sz B m := by
  by_cases h0 : m = 0
  · subst h0; rw [Nat.mul_zero, sz_zero]; omega
  refine sz_le_of_lt hB ?_
  rw [Nat.pow_add]
  exact Nat.mul_lt_mul_of_lt_of_le (lt_pow_sz hB n) (Nat.le_of_lt (lt_pow_sz hB m)) (Nat.pos_of_ne_zero (by have := lt_pow_sz hB m; omega))
theorem sz_add {B : Nat} (hB : 2 ≤ B) {n m k : Nat} (hn : sz B n ≤ k) (hm : sz B m ≤ k) : sz B (n + m) ≤ k + 1 := by
  refine sz_le_of_lt hB ?_
  have h1 := Nat.lt_of_lt_of_le (lt_pow_sz hB n) (Nat.pow_le_pow_right (by omega : 0 < B) hn)
  have h2 := Nat.lt_of_lt_of_le (lt_pow_sz hB m) (Nat.pow_le_pow_right (by omega : 0 < B) hm)
  rw [Nat.pow_succ]
  have : B ^ k * 2 ≤ B ^ k * B := Nat.mul_le_mul_left _ hB
  omega

/-- order by size: more digits, a greater number -/
theorem lt_of_sz_lt {B : Nat} (hB : 2 ≤ B) {n m : Nat} (h : sz B n < sz B m) : n < m := by
  rcases Nat.lt_or_ge n m with h1 | h1
  · exact h1
  · exact absurd (sz_mono hB h1) (by omega)
/-- what is greater in the highest digit at which two lists part is greater -/
theorem val_lt_of_part {B : Nat} {l m : List Nat} {i : Nat} (hl : Small B l) (hi : i < l.length) (him : i < m.length)
    (hd : l.drop (i + 1) = m.drop (i + 1)) (h : l[i] < m[i]) : val B l < val B m := by
  have hB : 0 < B := Nat.lt_of_le_of_lt (Nat.zero_le _) (small_get hl i hi)
  rw [val_take_drop B l i (by omega), val_take_drop B m i (by omega), val_drop_succ B l i hi, val_drop_succ B m i him, hd]
  have hlt := val_lt hB (small_take hl i)
  rw [List.length_take, Nat.min_eq_left (by omega)] at hlt
  have : B ^ i * (l[i] + 1) ≤ B ^ i * m[i] := Nat.mul_le_mul_left _ h
  grind

/-- the strokes of a sum -/
theorem add_step {B x y c s c' P v va vb : Nat} (h : x + y + c = s + B * c') (hv : v + c * P = va + vb) : (v + P * s) + c' * (P * B) = (va + P * x) + (vb + P * y) := by grind
/-- the strokes of a difference -/
theorem sub_step {B x y c s c' P v va vb : Nat} (h : x + B * c' = s + y + c) (hv : v + vb = va + c * P) : (v + P * s) + (vb + P * y) = (va + P * x) + c' * (P * B) := by grind

/-- without the noughts at the end -/
def strip : List Nat → List Nat
  | [] => []
  | x :: l => match strip l with
    | [] => if x = 0 then [] else [x]
    | y :: m => x :: y :: m
theorem strip_dig {B : Nat} (hB : 2 ≤ B) : ∀ {l : List Nat}, Small B l → strip l = dig B (val B l)
  | [], _ => rfl
  | x :: l, hs => by
    have hx : x < B := hs x (by simp)
    have ih := strip_dig hB (l := l) fun y hy => hs y (by simp [hy])
    simp only [strip]
    by_cases h0 : val B l = 0
    · rw [ih, h0, dig_zero]
      simp only [val_cons, h0, Nat.mul_zero, Nat.add_zero]
      by_cases hx0 : x = 0
      · subst hx0; rfl
      · simp only [if_neg hx0]; rw [dig_one hB (by omega) hx]
    · have hne : dig B (val B l) ≠ [] := fun e => h0 ((dig_eq_nil hB).1 e)
      have hpos : 0 < val B (x :: l) := by
        rw [val_cons]; have : 0 < B * val B l := Nat.mul_pos (by omega) (by omega)
        omega
      rw [dig_pos hB hpos, val_cons, Nat.add_mul_mod_self_left, Nat.mod_eq_of_lt hx, Nat.add_mul_div_left _ _ (by omega : 0 < B), Nat.div_eq_of_lt hx, Nat.zero_add, ih]
      cases hh : dig B (val B l) with
      | nil => exact absurd hh hne
      | cons y m => rfl
theorem strip_snoc_zero (l : List Nat) : strip (l ++ [0]) = strip l := by
  induction l with
  | nil => rfl
  | cons x l ih => simp only [List.cons_append, strip, ih]
theorem strip_snoc {l : List Nat} {x : Nat} (h : x ≠ 0) : strip (l ++ [x]) = l ++ [x] := by
  induction l with
  | nil => simp [strip, h]
  | cons y l ih =>
    simp only [List.cons_append, strip, ih]
    cases l <;> rfl
/-- what trim takes off, one at a time -/
theorem strip_take {l : List Nat} {k : Nat} (hk : k < l.length) (h : l[k] = 0) : strip (l.take (k + 1)) = strip (l.take k) := by
  rw [take_succ' l k hk, h, strip_snoc_zero]
theorem strip_take_ne {l : List Nat} {k : Nat} (hk : k < l.length) (h : l[k] ≠ 0) : strip (l.take (k + 1)) = l.take (k + 1) := by
  rw [take_succ' l k hk, strip_snoc h]
theorem strip_nil : strip [] = [] := rfl
theorem strip_length (l : List Nat) : (strip l).length ≤ l.length := by
  induction l with
  | nil => simp [strip]
  | cons x l ih =>
    simp only [strip]
    cases h : strip l with
    | nil => by_cases hx : x = 0 <;> simp [hx]
    | cons y m => rw [h] at ih; simp at ih ⊢; omega

/-- the two bases of the texts: words of 64 bits, halves of 32, digits of 16 -/
def W : Nat := 18446744073709551616
def H : Nat := 4294967296
def D : Nat := 65536
theorem W2 : 2 ≤ W := by decide
theorem H2 : 2 ≤ H := by decide
theorem D2 : 2 ≤ D := by decide

end Go.Proofs.Ytmimmckhnomcdaa.Big
/- How a slice of unsigned or signed numbers reads in memory: At w k v l says that the value v is a slice whose elements, of integer kind k, are the numbers l. -/
namespace Go.Proofs.Ytmimmckhnomcdaa
open Go.RowKit

/-- a fact that the walk does not take for a rule -/
theorem hid {p : Prop} (h : p) : Hid p := h

/-- the slice v holds the numbers l -/
def At (w : World) (k : IntKind) (v : Value) (l : List Nat) : Prop :=
  ∃ p cap, v = .slice p l.length cap ∧ l.length ≤ cap ∧ cap ≤ maxLen ∧ (p = none → cap = 0) ∧
    (0 < l.length → ∃ b off, p = some ⟨b, off, none⟩ ∧ b < w.heap.size ∧ ∀ i (h : i < l.length), w.cell? ⟨b, off + i, none⟩ = some (.int k (l[i]'h : Nat)))

theorem At.nil (w : World) (k : IntKind) : At w k (.slice none 0 0) [] := ⟨none, 0, rfl, by simp, by simp [maxLen], fun _ => rfl, fun h => absurd h (by simp)⟩
theorem At.below {w w' : World} {k : IntKind} {v : Value} {l : List Nat} (h : At w k v l) (hb : Below w.heap.size w w') : At w' k v l := by
  obtain ⟨p, cap, hv, h1, h2, h3, h4⟩ := h
  refine ⟨p, cap, hv, h1, h2, h3, fun hp => ?_⟩
  obtain ⟨b, off, h5, h6, h7⟩ := h4 hp
  exact ⟨b, off, h5, Nat.lt_of_lt_of_le h6 hb.size, fun i hi => (hb.cell (p := ⟨b, off + i, none⟩) h6).trans (h7 i hi)⟩
/-- a cut at the end -/
theorem At.take {w : World} {k : IntKind} {p : Option Addr} {n cap : Nat} {l : List Nat} (h : At w k (.slice p n cap) l) (m : Nat) (hm : m ≤ l.length) : At w k (.slice p m cap) (l.take m) := by
  obtain ⟨p', cap', hv, h1, h2, h3, h4⟩ := h
  cases hv
  refine ⟨p, cap, by simp [Nat.min_eq_left hm], by simp; omega, h2, h3, fun hp => ?_⟩
  rw [List.length_take, Nat.min_eq_left hm] at hp
  obtain ⟨b, off, h5, h6, h7⟩ := h4 (by omega)
  exact ⟨b, off, h5, h6, fun i hi => by rw [h7 i (by simp at hi; omega)]; simp⟩

/-- what a call answers: a slice of numbers l; memory that was there stays -/
def RAt (k : IntKind) (l : List Nat) (w : World) (e : Ending) (w' : World) : Prop := ∃ v', e = .returned v' ∧ At w' k v' l ∧ Below w.heap.size w w'
/-- likewise, nothing having turned -/
def RSame (k : IntKind) (l : List Nat) (w : World) (e : Ending) (w' : World) : Prop := ∃ v', e = .returned v' ∧ At w' k v' l ∧ w = w'
/-- a whole number by its sign and size -/
def sg (neg : Bool) (n : Nat) : Int := if neg then -(n : Int) else n
/-- a whole number as it is told -/
def IntAt (w : World) (v : Value) (z : Int) : Prop := ∃ s, v = .agg #[.bool (decide (z < 0)), s] ∧ At w .u64 s (Big.dig Big.W z.natAbs)
def RInt (z : Int) (w : World) (e : Ending) (w' : World) : Prop := ∃ v, e = .returned v ∧ IntAt w' v z ∧ Below w.heap.size w w'
/-- a whole number as it is handed in -/
def RawAt (w : World) (v : Value) (z : Int) : Prop := ∃ neg s l, v = .agg #[.bool neg, s] ∧ At w .u64 s l ∧ Big.Small Big.W l ∧ l.length ≤ 1099511627776 ∧ z = sg neg (Big.val Big.W l)
def RBool (b : Bool) (w : World) (e : Ending) (w' : World) : Prop := e = .returned (.bool b) ∧ Below w.heap.size w w'
def RNum (k : IntKind) (n : Int) (w : World) (e : Ending) (w' : World) : Prop := e = .returned (.int k n) ∧ Below w.heap.size w w'
theorem IntAt.below {w w' : World} {v : Value} {z : Int} (h : IntAt w v z) (hb : Below w.heap.size w w') : IntAt w' v z := by
  obtain ⟨s, hs, ha⟩ := h
  exact ⟨s, hs, ha.below hb⟩
theorem RawAt.below {w w' : World} {v : Value} {z : Int} (h : RawAt w v z) (hb : Below w.heap.size w w') : RawAt w' v z := by
  obtain ⟨neg, s, l, hs, ha, r⟩ := h
  exact ⟨neg, s, l, hs, ha.below hb, r⟩
theorem sg_natAbs (neg : Bool) (n : Nat) : (sg neg n).natAbs = n := by unfold sg; cases neg <;> simp
theorem sg_neg (neg : Bool) (n : Nat) (h : n ≠ 0) : decide (sg neg n < 0) = neg := by unfold sg; cases neg <;> simp <;> omega
theorem sg_zero (neg : Bool) : sg neg 0 = 0 := by unfold sg; cases neg <;> simp
theorem IntAt.zero (w : World) : IntAt w (.agg #[.bool false, .slice none 0 0]) 0 := ⟨_, by simp, At.nil w .u64⟩
theorem IntAt.mk {w : World} {neg : Bool} {s : Value} {n : Nat} (h0 : n ≠ 0) (h : At w .u64 s (Big.dig Big.W n)) : IntAt w (.agg #[.bool neg, s]) (sg neg n) :=
  ⟨s, by rw [sg_neg neg n h0], by rw [sg_natAbs]; exact h⟩
/-- a fresh cell of its own -/
theorem At.one (w : World) (k : IntKind) (x : Nat) (t : TypeId) : At (w.alloc (.cells #[.int k x] t)) k (.slice (some ⟨w.heap.size, 0, none⟩) 1 1) [x] :=
  ⟨_, 1, rfl, by simp, by simp [maxLen], fun h => (by cases h), fun _ => ⟨_, _, rfl, by simp, fun i hi => by
    obtain rfl : i = 0 := by simp at hi; omega
    simp [go_sem]⟩⟩
theorem below1 (w : World) (o : Obj) : Below w.heap.size w (w.alloc o) := (Below.refl _ _).alloc (Nat.le_refl _) o
def lenOf : Value → Nat | .slice _ n _ => n | _ => 0

theorem quiet_add_same {P : Program} {f : FuncId} {args : Array Value} {w : World} {a n : Nat} {v : Value}
    (h : Calls P f args (w.drewN (a + n)) fun e w' => e = .returned v ∧ w' = w.drewN (a + n)) :
    Calls P f args (w.drewN (a + n)) fun e w'' => e = .returned v ∧ ∃ m, w'' = w.drewN (a + m) :=
  h.mono fun _ _ ⟨he, hm⟩ => ⟨he, n, hm⟩
theorem At.drew {w : World} {k : IntKind} {v : Value} {l : List Nat} (h : At w k v l) : At w.drew k v l := h
theorem At.alloc {w : World} {k : IntKind} {v : Value} {l : List Nat} (h : At w k v l) (o : Obj) : At (w.alloc o) k v l := h.below (below1 w o)
/-- a slice cut behind its first m elements -/
def cutTo (v : Value) (m : Nat) : Value := match v with | .slice p _ c => .slice p m c | v => v
theorem At.cut {w : World} {k : IntKind} {v : Value} {l : List Nat} (h : At w k v l) (m : Nat) (hm : m ≤ l.length) : At w k (cutTo v m) (l.take m) := by
  have h' := h
  obtain ⟨p, cap, rfl, r⟩ := h'
  exact h.take m hm
theorem At.drewN {w : World} {k : IntKind} {v : Value} {l : List Nat} (h : At w k v l) (n : Nat) : At (w.drewN n) k v l := h

end Go.Proofs.Ytmimmckhnomcdaa
/- Slices of numbers that a call has made itself: what append and make do with them. -/
namespace Go.Proofs.Ytmimmckhnomcdaa
open Go.RowKit Big

/-- t is the type of slices of e, the integers of kind k, of so many bytes -/
structure Elem (P : Program) (t e : TypeId) (k : IntKind) (size : Nat) : Prop where
  und : P.underlying t = some (.slice e)
  row : ∃ i, P.info? e = some i ∧ i.zero = some (.int k 0) ∧ i.size = 1 ∧ i.bytes = size
def ints (k : IntKind) (l : List Nat) : List Value := l.map fun x => Value.int k (x : Nat)
/-- v holds the numbers l in a row of the call's own, from block base on -/
def Own (w : World) (base : Nat) (e : TypeId) (k : IntKind) (v : Value) (l : List Nat) : Prop := w.ownsRow base e 1 v l.length (ints k l)

theorem ints_length (k : IntKind) (l : List Nat) : (ints k l).length = l.length := by simp [ints]
theorem ints_append (k : IntKind) (l m : List Nat) : ints k (l ++ m) = ints k l ++ ints k m := by simp [ints]
theorem Own.nil (w : World) (base : Nat) (e : TypeId) (k : IntKind) : Own w base e k (.slice none 0 0) [] := World.ownsRow_nil w base e 1
theorem Own.at {w : World} {base : Nat} {e : TypeId} {k : IntKind} {v : Value} {l : List Nat} (h : Own w base e k v l) : At w k v l := by
  have h' := h
  unfold Own at h'
  rcases h'.2 with ⟨rfl, h0⟩ | ⟨g, cap, cur, rfl, _, hg, hn, hm, _, _⟩
  · obtain rfl := List.eq_nil_of_length_eq_zero h0
    exact At.nil w k
  · refine ⟨_, cap, rfl, hn, hm, fun h => (by cases h), fun _ => ⟨g, 0, rfl, (Array.getElem?_eq_some_iff.1 hg).1, fun i hi => ?_⟩⟩
    have := World.ownsRow.cellAt h' i (by omega)
    rw [Nat.zero_add, this]
    simp [ints, hi]
theorem Own.kept {w w' : World} {base : Nat} {e : TypeId} {k : IntKind} {v : Value} {l : List Nat} (h : Own w base e k v l) (hb : Below w.heap.size w w') : Own w' base e k v l := by
  refine ⟨h.1, ?_⟩
  rcases h.2 with hn | ⟨g, cap, cur, rfl, h1, hg, r⟩
  · exact Or.inl hn
  · exact Or.inr ⟨g, cap, cur, rfl, h1, by rw [hb.block g (Array.getElem?_eq_some_iff.1 hg).1]; exact hg, r⟩
theorem Own.alloc {w : World} {base : Nat} {e : TypeId} {k : IntKind} {v : Value} {l : List Nat} (h : Own w base e k v l) (o : Obj) : Own (w.alloc o) base e k v l := h.kept (below1 w o)
theorem Own.mono {w : World} {base base' : Nat} {e : TypeId} {k : IntKind} {v : Value} {l : List Nat} (h : Own w base e k v l) (hb : base' ≤ base) : Own w base' e k v l := by
  refine ⟨h.1, ?_⟩
  rcases h.2 with hn | ⟨g, cap, cur, rfl, h1, r⟩
  · exact Or.inl hn
  · exact Or.inr ⟨g, cap, cur, rfl, Nat.le_trans hb h1, r⟩
/-- a row that is written is one of the call's own -/
theorem Own.row {w : World} {base : Nat} {e : TypeId} {k : IntKind} {v : Value} {l : List Nat} (h : Own w base e k v l) : ∀ g, v.ownBlock = some g → base ≤ g := fun g hg => (World.ownsRow.lt h g hg).1
/-- a cut at the end -/
theorem Own.take {w : World} {base : Nat} {e : TypeId} {k : IntKind} {p : Option Addr} {n cap : Nat} {l : List Nat} (h : Own w base e k (.slice p n cap) l) (m : Nat) (hm : m ≤ l.length) : Own w base e k (.slice p m cap) (l.take m) := by
  have hl : (l.take m).length = m := by simp [Nat.min_eq_left hm]
  unfold Own at h ⊢
  rw [hl]
  refine ⟨by simp [ints_length, hl], ?_⟩
  rcases h.2 with ⟨h1, h2⟩ | ⟨g, c, cur, h1, h2, h3, h4, h5, h6, h7⟩
  · cases h1; exact Or.inl ⟨by rw [show m = 0 by omega], by omega⟩
  · cases h1
    refine Or.inr ⟨g, cap, cur, rfl, h2, h3, by omega, h5, h6, ?_⟩
    have : (ints k l).take m = ints k (l.take m) := by simp [ints, List.map_take]
    rw [← this, ← h7, List.take_take]
    congr 1; omega

/-- what a call answers: a slice of numbers l in memory of its own -/
def ROwn (e : TypeId) (k : IntKind) (l : List Nat) (w : World) (en : Ending) (w' : World) : Prop := ∃ v', en = .returned v' ∧ Own w' w.heap.size e k v' l ∧ Below w.heap.size w w'
theorem elemInts : Elem Try.prog 38 3 .i64 8 := ⟨Try.underlying38, info_parts (by kernel_rfl)⟩

section
variable {P : Program} {w : World} {ops : Array Oper} {rest : List Oper} {o : Oper} {a : Act} {Q : Exit → Act → World → Prop}

/-- 'append(v, x...)': v the call's own, x whatever slice of numbers -/
theorem wpList_append_at (hgd : o.guard = none) (s x : Operand) (t : TypeId)
    (ho : o.op = .call { callee := .builtin .append, args := #[s, x], argTypes := #[t, t] })
    {e : TypeId} {k : IntKind} {size : Nat} (E : Elem P t e k size) (base : Nat) (v : Value) (l : List Nat) (hs : a.eval s = v) (hown : Own w base e k v l)
    (vx : Value) (m : List Nat) (hx : a.eval x = vx) (hat : At w k vx m)
    (hlen : l.length + m.length ≤ maxLen) (hbytes : (l.length + m.length) * size ≤ 140737488355328) (hbase : base ≤ w.heap.size)
    (h : ∀ v' w', Own w' base e k v' (l ++ m) → Below base w w' → w.heap.size ≤ w'.heap.size → wpList P ops Q rest (a.put o.dst v') w') : wpList P ops Q (o :: rest) a w := by
  obtain ⟨i, hi, hz, hsz, hby⟩ := E.row
  obtain ⟨p, cap, rfl, h1, h2, h3, h4⟩ := hat
  cases p with
  | none =>
    obtain rfl := h3 rfl
    obtain rfl : m = [] := List.eq_nil_of_length_eq_zero (by omega)
    exact wpList_append_own_none hgd s x t ho base e i 1 E.und hi v l.length (ints k l) hs hown hx (h _ _ (by rw [List.append_nil]; exact hown) (Below.refl _ _) (Nat.le_refl _))
  | some ad =>
    refine wpList_append_own w hgd s x t ho base e i (.int k 0) 1 size E.und hi hz hsz hby rfl (by decide) v l.length (ints k l) hs hown ad m.length cap (ints k m) hx (by simp [ints_length]) ?_ ?_ hlen hbytes hbase ?_
    · intro j u hj
      by_cases hjm : j < m.length
      · obtain ⟨b, off, he, hb, hc⟩ := h4 (by omega)
        cases he
        rw [Go.WideShapes.add_plain, hc j hjm]
        simpa [ints, hjm] using hj
      · rw [List.getElem?_eq_none (by rw [ints_length]; omega)] at hj; cases hj
    · intro u hu
      obtain ⟨n, _, rfl⟩ := List.mem_map.1 hu
      rfl
    · intro v' w' h5 h6 _
      refine h v' w' ?_ ((Below.refl _ _).grown h6 hbase hown.row) h6.size
      unfold Own
      rw [List.length_append, ints_append]; exact h5

/-- 'make([]T, 0, n)' -/
theorem wpList_make_at (hg : o.guard = none) (l c : Operand) (t : TypeId) (hop : o.op = Op.makeSlice t l c)
    {e : TypeId} {k : IntKind} {size : Nat} (E : Elem P t e k size) (base : Nat)
    (kl kc : IntKind) (C : Int) (n : Nat) (hl : a.eval l = .int kl 0) (hc : a.eval c = .int kc C) (hC : C = (n : Int)) (b2 : size * n ≤ 281474976710656) (b3 : n ≤ maxLen) (b4 : base ≤ w.heap.size)
    (hK : ∀ v w', Own w' base e k v [] → Below base w w' → w.heap.size ≤ w'.heap.size → v = (.slice (some ⟨w.heap.size, 0, none⟩) 0 n) → wpList P ops Q rest (a.put o.dst v) w') :
    wpList P ops Q (o :: rest) a w := by
  obtain ⟨i, hi, hz, hsz, hby⟩ := E.row
  subst hby
  exact wpList_make_own w hg l c t hop base e i (.int k 0) 1 E.und hi hz hsz kl kc C n hl hc hC b2 b3 b4 fun w' h1 h2 => hK _ w' h1 ((Below.refl _ _).grown h2 b4 (fun _ h => by cases h)) h2.size rfl

/-- 'make([]T, n)' -/
theorem wpList_full_at (hg : o.guard = none) (l c : Operand) (t : TypeId) (hop : o.op = Op.makeSlice t l c)
    {e : TypeId} {k : IntKind} {size : Nat} (E : Elem P t e k size) (base : Nat)
    (kl kc : IntKind) (L C : Int) (n : Nat) (hl : a.eval l = .int kl L) (hc : a.eval c = .int kc C) (hL : L = (n : Int)) (hC : C = (n : Int)) (b2 : size * n ≤ 281474976710656) (b3 : n ≤ maxLen) (b4 : base ≤ w.heap.size)
    (hK : ∀ v w', Own w' base e k v (List.replicate n 0) → Below base w w' → w.heap.size ≤ w'.heap.size → v = (.slice (some ⟨w.heap.size, 0, none⟩) n n) → wpList P ops Q rest (a.put o.dst v) w') :
    wpList P ops Q (o :: rest) a w := by
  obtain ⟨i, hi, hz, hsz, hby⟩ := E.row
  subst hby
  refine wpList_make_full w hg l c t hop base e i (.int k 0) 1 E.und hi hz hsz kl kc L C n hl hc hL hC b2 b3 b4 fun w' h1 h2 => hK _ w' ?_ ((Below.refl _ _).grown h2 b4 (fun _ h => by cases h)) h2.size rfl
  unfold Own
  rw [List.length_replicate]
  have e1 : (madeCells (Value.int k 0).cells (n * 1)).toList = ints k (List.replicate n 0) := by
    rw [Nat.mul_one]
    show (madeCells #[Value.int k 0] n).toList = _
    rw [toList_madeCells_one]
    simp [ints]
  rw [← e1]; exact h1
end

end Go.Proofs.Ytmimmckhnomcdaa
/- What stays when a call writes into blocks of a set S alone, and into new ones. -/
namespace Go.Proofs.Ytmimmckhnomcdaa
open Go.RowKit

/-- of what was there only blocks of S may have turned -/
structure Apart (S : Nat → Prop) (w w' : World) : Prop where
  os : w'.os = w.os
  tape : w'.tape = w.tape
  output : w'.output = w.output
  size : w.heap.size ≤ w'.heap.size
  block : ∀ k, k < w.heap.size → ¬ S k → w'.heap[k]? = w.heap[k]?
theorem Apart.refl (S : Nat → Prop) (w : World) : Apart S w w := ⟨rfl, rfl, rfl, Nat.le_refl _, fun _ _ _ => rfl⟩
theorem Apart.trans {S S' : Nat → Prop} {a b c : World} (h : Apart S a b) (k : Apart S' b c) (hS : ∀ i, S' i → S i ∨ a.heap.size ≤ i) : Apart S a c :=
  ⟨k.os.trans h.os, k.tape.trans h.tape, k.output.trans h.output, Nat.le_trans h.size k.size, fun i hi hn => (k.block i (Nat.lt_of_lt_of_le hi h.size) (fun hs => by
    rcases hS i hs with h1 | h1
    · exact hn h1
    · omega)).trans (h.block i hi hn)⟩
theorem Apart.go {S : Nat → Prop} {a b c : World} (h : Apart S a b) (k : Apart S b c) : Apart S a c := h.trans k (fun _ h => .inl h)
theorem Apart.mono {S S' : Nat → Prop} {w w' : World} (h : Apart S w w') (hS : ∀ i, S i → S' i) : Apart S' w w' :=
  ⟨h.os, h.tape, h.output, h.size, fun i hi hn => h.block i hi (fun hs => hn (hS i hs))⟩
theorem Apart.of_below {S : Nat → Prop} {w w' : World} (h : Below w.heap.size w w') : Apart S w w' := ⟨h.os, h.tape, h.output, h.size, fun i hi _ => h.block i hi⟩
theorem Apart.below {S : Nat → Prop} {w w' : World} {B : Nat} (h : Apart S w w') (hB : B ≤ w.heap.size) (hS : ∀ i, S i → B ≤ i) : Below B w w' :=
  ⟨h.os, h.tape, h.output, h.size, fun i hi => h.block i (by omega) (fun hs => by have := hS i hs; omega)⟩
theorem Apart.setCell {S : Nat → Prop} {a w : World} (h : Apart S a w) {p : Addr} (hp : S p.block) (u : Value) : Apart S a (w.setCell p u) :=
  h.go ⟨rfl, rfl, rfl, by simp [World.setCell], fun k _ hn => Below.heap_setCell _ _ _ _ (fun e => hn (by rw [e]; exact hp))⟩
theorem Apart.grown {S : Nat → Prop} {a w w' : World} {row : Option Nat} (h : Apart S a w) (hg : w.grownBy w' row) (hr : ∀ k, row = some k → S k) : Apart S a w' :=
  h.go ⟨hg.os, hg.tape, hg.output, hg.size, fun k hk hn => hg.block k hk (fun e => hn (hr k e.symm))⟩
theorem Apart.drew {S : Nat → Prop} {a w : World} (h : Apart S a w) : Apart S a w.drew := ⟨h.os, h.tape, h.output, h.size, h.block⟩
theorem Apart.drewN {S : Nat → Prop} {a w : World} (h : Apart S a w) (n : Nat) : Apart S a (w.drewN n) := ⟨h.os, h.tape, h.output, h.size, h.block⟩
theorem Apart.cell {S : Nat → Prop} {w w' : World} (h : Apart S w w') {p : Addr} (hp : p.block < w.heap.size) (hn : ¬ S p.block) : w'.cell? p = w.cell? p :=
  World.cell?_of_block (w := w) (h.block p.block hp hn)

/-- the block of a row, if it has one, is one of S -/
def InS (S : Nat → Prop) (v : Value) : Prop := ∀ k, v.ownBlock = some k → S k
theorem InS.mono {S S' : Nat → Prop} {v : Value} (h : InS S v) (hS : ∀ i, S i → S' i) : InS S' v := fun k hk => hS k (h k hk)
/-- a row stays where its block does -/
theorem row_stays {w w' : World} {base : Nat} {e : TypeId} {size : Nat} {v : Value} {n : Nat} {xs : List Value} (h : w.ownsRow base e size v n xs) (hb : ∀ k, v.ownBlock = some k → w'.heap[k]? = w.heap[k]?) : w'.ownsRow base e size v n xs := by
  obtain ⟨hl, h0 | ⟨g, cap, cur, rfl, hg, hh, r⟩⟩ := h
  · exact ⟨hl, .inl h0⟩
  · exact ⟨hl, .inr ⟨g, cap, cur, rfl, hg, (hb g rfl).trans hh, r⟩⟩
theorem row_apart {S : Nat → Prop} {w w' : World} {base : Nat} {e : TypeId} {size : Nat} {v : Value} {n : Nat} {xs : List Value} (h : w.ownsRow base e size v n xs) (ha : Apart S w w') (hn : ∀ k, v.ownBlock = some k → ¬ S k) : w'.ownsRow base e size v n xs :=
  row_stays h fun k hk => ha.block k (World.ownsRow.lt h k hk).2 (hn k hk)
/-- two rows of unlike elements lie in unlike blocks -/
theorem row_apart_type {w : World} {b b' : Nat} {e e' : TypeId} {s s' : Nat} {v v' : Value} {n n' : Nat} {xs xs' : List Value} (h : w.ownsRow b e s v n xs) (h' : w.ownsRow b' e' s' v' n' xs') (hne : e ≠ e') :
    ∀ k, v.ownBlock = some k → v'.ownBlock ≠ some k := by
  intro k hk hk'
  rcases h.2 with ⟨rfl, _⟩ | ⟨g, cap, cur, rfl, _, hg, _⟩
  · cases hk
  · rcases h'.2 with ⟨rfl, _⟩ | ⟨g', cap', cur', rfl, _, hg', _⟩
    · cases hk'
    · cases hk; cases hk'
      rw [hg] at hg'
      cases hg'
      exact hne rfl
theorem row_tag {w : World} {b : Nat} {e : TypeId} {s : Nat} {v : Value} {n : Nat} {xs : List Value} (h : w.ownsRow b e s v n xs) : ∀ k, v.ownBlock = some k → ∃ c, w.heap[k]? = some (.cells c e (0, 0)) := by
  intro k hk
  rcases h.2 with ⟨rfl, _⟩ | ⟨g, cap, cur, rfl, _, hg, _⟩
  · cases hk
  · cases hk; exact ⟨_, hg⟩

end Go.Proofs.Ytmimmckhnomcdaa
/- Small facts on new blocks. -/
namespace Go.Proofs.Ytmimmckhnomcdaa
open Go.RowKit Big
theorem size_alloc (w : World) (o : Obj) : (w.alloc o).heap.size = w.heap.size + 1 := by simp
theorem heap_new1 (w : World) (o : Obj) : (w.alloc o).drew.heap[w.heap.size]? = some o := heap_alloc_new w o
theorem heap_new2 (w : World) (o1 o2 : Obj) : ((w.alloc o1).alloc o2).drew.heap[w.heap.size + 1]? = some o2 := by
  have := heap_alloc_new (w.alloc o1) o2
  rwa [size_alloc] at this
theorem heap_new3 (w : World) (o1 o2 o3 : Obj) : (((w.alloc o1).alloc o2).alloc o3).drew.heap[w.heap.size + 2]? = some o3 := by
  have := heap_alloc_new ((w.alloc o1).alloc o2) o3
  rwa [size_alloc, size_alloc] at this
theorem two_cells {w : World} {g : Nat} {a b : Value} {t : TypeId} (h : w.heap[g]? = some (.cells #[a, b] t (0, 0))) :
    w.cell? ⟨g, 0, none⟩ = some a ∧ w.cell? ⟨g, 1, none⟩ = some b ∧ w.frozen? ⟨g, 0, none⟩ = false ∧ w.frozen? ⟨g, 1, none⟩ = false :=
  ⟨by rw [cell_of_row w g 0 _ t (0, 0) h]; rfl, by rw [cell_of_row w g 1 _ t (0, 0) h]; rfl, frozen_of_row w g 0 _ t h, frozen_of_row w g 1 _ t h⟩
/-- block g is a variable that holds a whole number: a bool and a slice -/
def Pair (w : World) (g : Nat) (t : TypeId) : Prop := ∃ x p n c, w.heap[g]? = some (.cells #[.bool x, .slice p n c] t (0, 0))
theorem Pair.cells {w : World} {g : Nat} {t : TypeId} (h : Pair w g t) : ∃ a b, w.cell? ⟨g, 0, none⟩ = some a ∧ w.cell? ⟨g, 1, none⟩ = some b ∧ w.frozen? ⟨g, 0, none⟩ = false ∧ w.frozen? ⟨g, 1, none⟩ = false := by
  obtain ⟨x, p, n, c, h⟩ := h
  exact ⟨_, _, two_cells h⟩
theorem Pair.below {w w' : World} {g : Nat} {t : TypeId} (h : Pair w g t) (hb : Below w.heap.size w w') : Pair w' g t := by
  obtain ⟨x, p, n, c, h⟩ := h
  exact ⟨x, p, n, c, (hb.block g (Array.getElem?_eq_some_iff.1 h).1).trans h⟩
theorem Pair.lt {w : World} {g : Nat} {t : TypeId} (h : Pair w g t) : g < w.heap.size := by
  obtain ⟨x, p, n, c, h⟩ := h
  exact (Array.getElem?_eq_some_iff.1 h).1
theorem Pair.set0 {w : World} {g : Nat} {t : TypeId} (h : Pair w g t) (x : Bool) : Pair (w.setCell ⟨g, 0, none⟩ (.bool x)) g t := by
  obtain ⟨y, p, n, c, h⟩ := h
  exact ⟨x, p, n, c, heap_setCell_same w g 0 _ t _ h⟩
theorem Pair.set1 {w : World} {g : Nat} {t : TypeId} (h : Pair w g t) (p : Option Addr) (n c : Nat) : Pair (w.setCell ⟨g, 1, none⟩ (.slice p n c)) g t := by
  obtain ⟨y, p', n', c', h⟩ := h
  exact ⟨y, p, n, c, heap_setCell_same w g 1 _ t _ h⟩
theorem Pair.drew {w : World} {g : Nat} {t : TypeId} (h : Pair w g t) : Pair w.drew g t := h
theorem Pair.new (w : World) (x : Bool) (p : Option Addr) (n c : Nat) (t : TypeId) : Pair (w.alloc (.cells #[.bool x, .slice p n c] t)) w.heap.size t := ⟨x, p, n, c, heap_alloc_new w _⟩
theorem Pair.new1 (w : World) (o : Obj) (x : Bool) (p : Option Addr) (n c : Nat) (t : TypeId) : Pair ((w.alloc o).alloc (.cells #[.bool x, .slice p n c] t)) (w.heap.size + 1) t := by
  have := Pair.new (w.alloc o) x p n c t
  rwa [size_alloc] at this
theorem Pair.new2 (w : World) (o o' : Obj) (x : Bool) (p : Option Addr) (n c : Nat) (t : TypeId) : Pair (((w.alloc o).alloc o').alloc (.cells #[.bool x, .slice p n c] t)) (w.heap.size + 2) t := by
  have := Pair.new ((w.alloc o).alloc o') x p n c t
  rwa [size_alloc, size_alloc] at this
theorem Pair.new3 (w : World) (o o' o'' : Obj) (x : Bool) (p : Option Addr) (n c : Nat) (t : TypeId) : Pair ((((w.alloc o).alloc o').alloc o'').alloc (.cells #[.bool x, .slice p n c] t)) (w.heap.size + 1 + 1 + 1) t := by
  have := Pair.new (((w.alloc o).alloc o').alloc o'') x p n c t
  rwa [size_alloc, size_alloc, size_alloc] at this
/-- a store into such a variable turns no slice of numbers -/
theorem At.set {w : World} {k : IntKind} {v : Value} {l : List Nat} {g : Nat} {t : TypeId} (h : At w k v l) (hp : Pair w g t) (j : Nat) (u : Value) : At (w.setCell ⟨g, j, none⟩ u) k v l := by
  obtain ⟨p, cap, hv, h1, h2, h3, h4⟩ := h
  refine ⟨p, cap, hv, h1, h2, h3, fun hl => ?_⟩
  obtain ⟨b, off, h5, h6, h7⟩ := h4 hl
  have hne : b ≠ g := by
    rintro rfl
    obtain ⟨x, q, n, c, hh⟩ := hp
    have h0 := h7 0 hl
    rw [cell_of_row w b (off + 0) _ t (0, 0) hh] at h0
    rcases (by omega : off = 0 ∨ off = 1 ∨ 2 ≤ off) with e | e | e
    · subst e; simp at h0
    · subst e; simp at h0
    · rw [Array.getElem?_eq_none (by simpa using e)] at h0; cases h0
  refine ⟨b, off, h5, by simpa [World.setCell] using h6, fun i hi => ?_⟩
  rw [← h7 i hi]
  exact World.cell?_of_block (w := w) (Below.heap_setCell w _ u b hne)
theorem At.stored {w : World} {k : IntKind} {v : Value} {l : List Nat} {g : Nat} {t : TypeId} (h : At w k v l) (hp : Pair w g t) (x : Bool) (p : Option Addr) (n c : Nat) :
    At ((w.setCell ⟨g, 0, none⟩ (.bool x)).setCell ⟨g, 1, none⟩ (.slice p n c)) k v l := (h.set hp 0 _).set (hp.set0 x) 1 _
theorem IntAt.stored {w : World} {v : Value} {z : Int} {g : Nat} {t : TypeId} (h : IntAt w v z) (hp : Pair w g t) (x : Bool) (p : Option Addr) (n c : Nat) :
    IntAt ((w.setCell ⟨g, 0, none⟩ (.bool x)).setCell ⟨g, 1, none⟩ (.slice p n c)) v z := by
  obtain ⟨s, hs, ha⟩ := h
  exact ⟨s, hs, ha.stored hp x p n c⟩
theorem Below.stored {B : Nat} {w w' : World} (h : Below B w w') {g : Nat} (hg : B ≤ g) (u u' : Value) : Below B w ((w'.setCell ⟨g, 0, none⟩ u).setCell ⟨g, 1, none⟩ u') :=
  (h.setCell (p := ⟨g, 0, none⟩) hg u).setCell (p := ⟨g, 1, none⟩) hg u'
theorem IntAt.shape {w : World} {v : Value} {z : Int} (h : IntAt w v z) : ∃ p n c, v = .agg #[.bool (decide (z < 0)), .slice p n c] ∧ IntAt w (.agg #[.bool (decide (z < 0)), .slice p n c]) z := by
  obtain ⟨s, rfl, p, c, rfl, r⟩ := h
  exact ⟨p, _, c, rfl, _, rfl, p, c, rfl, r⟩
theorem At.oneI (w : World) (k : IntKind) (e : Int) (x : Nat) (t : TypeId) (h : e = (x : Int)) : At (w.alloc (.cells #[.int k e] t)) k (.slice (some ⟨w.heap.size, 0, none⟩) 1 1) [x] := by
  subst h; exact At.one w k x t
theorem cell_stored (w : World) {g : Nat} {p : Addr} (h : p.block ≠ g) (u u' : Value) : ((w.setCell ⟨g, 0, none⟩ u).setCell ⟨g, 1, none⟩ u').cell? p = w.cell? p :=
  World.cell?_of_block (w := w) ((Below.heap_setCell _ _ _ _ h).trans (Below.heap_setCell _ _ _ _ h))
/-- the cells of two variables that a call has laid for its arguments -/
structure Two (w : World) (g : Nat) (a b c d : Value) : Prop where
  c00 : w.cell? ⟨g, 0, none⟩ = some a
  c01 : w.cell? ⟨g, 1, none⟩ = some b
  c10 : w.cell? ⟨g + 1, 0, none⟩ = some c
  c11 : w.cell? ⟨g + 1, 1, none⟩ = some d
  lt : g + 2 ≤ w.heap.size
theorem Two.new (w : World) (a b c d : Value) (t : TypeId) : Two ((w.alloc (.cells #[a, b] t)).alloc (.cells #[c, d] t)) w.heap.size a b c d := by
  have h0 : ((w.alloc (.cells #[a, b] t)).alloc (.cells #[c, d] t)).heap[w.heap.size]? = some (.cells #[a, b] t (0, 0)) := by
    rw [heap_alloc_old _ _ (by simp)]; exact heap_alloc_new w _
  have h1 : ((w.alloc (.cells #[a, b] t)).alloc (.cells #[c, d] t)).heap[w.heap.size + 1]? = some (.cells #[c, d] t (0, 0)) := heap_new2 w _ _
  exact ⟨(two_cells h0).1, (two_cells h0).2.1, (two_cells h1).1, (two_cells h1).2.1, by simp⟩
theorem Two.below {w w' : World} {g : Nat} {a b c d : Value} (h : Two w g a b c d) (hb : Below w.heap.size w w') : Two w' g a b c d :=
  ⟨(hb.cell (p := ⟨g, 0, none⟩) (by have := h.lt; show g < _; omega)).trans h.c00, (hb.cell (p := ⟨g, 1, none⟩) (by have := h.lt; show g < _; omega)).trans h.c01,
   (hb.cell (p := ⟨g + 1, 0, none⟩) (by have := h.lt; show g + 1 < _; omega)).trans h.c10, (hb.cell (p := ⟨g + 1, 1, none⟩) (by have := h.lt; show g + 1 < _; omega)).trans h.c11, Nat.le_trans h.lt hb.size⟩
end Go.Proofs.Ytmimmckhnomcdaa
/- A region that draws its order, walked operation by operation under an invariant that speaks of what has come up: no branching over the orders. -/
namespace Go.Proofs.Ytmimmckhnomcdaa

theorem count_false_set (l : List Bool) (i : Nat) (h : i < l.length) (hf : l[i] = false) : (l.set i true).count false + 1 = l.count false := by
  induction l generalizing i with
  | nil => simp at h
  | cons b l ih =>
    cases i with
    | zero => simp at hf; subst hf; simp
    | succ i =>
      have := ih i (by simpa using h) (by simpa using hf)
      cases b <;> simp [List.set_cons_succ] <;> omega

/-- edges lead to lower numbers -/
def edgesDown (md : Region.Mode) (ops : Array Oper) : Bool := (List.range ops.size).all fun i => (ops[i]?).all fun o => o.after.all fun e => !Region.binds md e || decide (e.on < i)

theorem all_listed {md : Region.Mode} {ops : Array Oper} (hd : edgesDown md ops = true) {listed : Array Bool} (hs : listed.size = ops.size) (hr : Region.ready md ops listed = []) : ∀ i, i < ops.size → listed.getD i true = true := by
  intro i
  induction i using Nat.strongRecOn with
  | _ i ih =>
    intro hi
    cases hun : listed.getD i true with
    | true => rfl
    | false =>
    have : i ∈ Region.ready md ops listed := mem_ready.2 ⟨hun, ops[i], by simp [hi], fun e he hb => by
      have h1 := List.all_eq_true.1 hd i (by simpa using hi)
      have h2 : ops[i]? = some ops[i] := by simp [hi]
      rw [h2] at h1
      simp only [Option.all_some, Array.all_eq_true_iff_forall_mem] at h1
      have hlt : e.on < i := by simpa [hb] using h1 e he
      have h4 := ih e.on hlt (by omega)
      have h5 : e.on < listed.size := by omega
      simpa [Array.getD, h5] using h4⟩
    rw [hr] at this; cases this

theorem wpAny_inv {P : Program} {ops : Array Oper} {Q : Exit → Act → World → Prop} {md : Region.Mode} (I : Array Bool → Act → World → Prop) (hd : edgesDown md ops = true)
    (hstep : ∀ listed a w, listed.size = ops.size → I listed a w → ∀ i, i ∈ Region.ready md ops listed → wpOp P ops Q i (fun a' w' => I (listed.setIfInBounds i true) a' w') a w)
    (hend : ∀ listed a w, listed.size = ops.size → I listed a w → (∀ i, i < ops.size → listed.getD i true = true) → Q .normal a w) :
    ∀ (fuel : Nat) (listed : Array Bool) (a : Act) (w : World), listed.size = ops.size → listed.toList.count false ≤ fuel → I listed a w → wpAny P md ops Q fuel listed a w := by
  intro fuel
  induction fuel with
  | zero =>
    intro listed a w hs hc hI
    have hr : Region.ready md ops listed = [] := by
      cases hr : Region.ready md ops listed with
      | nil => rfl
      | cons i is =>
        have hm : i ∈ Region.ready md ops listed := by rw [hr]; simp
        obtain ⟨hun, o, ho, -⟩ := mem_ready.1 hm
        have hi : i < listed.size := by rw [hs]; exact (Array.getElem?_eq_some_iff.1 ho).1
        have hmem : false ∈ listed.toList := by
          have : listed[i] = false := by simpa [Array.getD, hi] using hun
          rw [← this]; simp
        have := List.count_pos_iff.2 hmem
        omega
    exact ⟨hr, hend _ _ _ hs hI (all_listed hd hs hr)⟩
  | succ fuel ih =>
    intro listed a w hs hc hI
    refine ⟨fun hr => hend _ _ _ hs hI (all_listed hd hs hr), fun i hi => ?_⟩
    obtain ⟨hun, o, ho, -⟩ := mem_ready.1 hi
    have hil : i < listed.size := by rw [hs]; exact (Array.getElem?_eq_some_iff.1 ho).1
    have hf : listed.toList[i] = false := by simpa [Array.getD, hil] using hun
    have hcount := count_false_set listed.toList i (by simpa using hil) hf
    refine wpOp_mono (fun a' w' h => ih _ a' w' (by simpa using hs) ?_ h) (hstep listed a w hs hI i hi)
    simp only [Array.toList_setIfInBounds]
    omega

/-- The invariant rule at a region: it holds at the beginning with nothing listed. -/
theorem wp_region_inv {P : Program} {ops : Array Oper} {Q : Exit → Act → World → Prop} {id : Nat} {a : Act} {w : World} (I : Array Bool → Act → World → Prop) (hm : P.follows .mixedOrders = true) (hd : edgesDown .any ops = true)
    (h0 : I (Array.replicate ops.size false) a w.drew)
    (hstep : ∀ i o, ops[i]? = some o → ∀ listed a w, listed.size = ops.size → I listed a w → listed.getD i true = false → (∀ e ∈ o.after, Region.binds .any e = true → listed.getD e.on false = true) →
      ∀ K : Act → World → Prop, Shut (∀ a w, I (listed.setIfInBounds i true) a w → K a w) → if Region.wanted o (yielded ops a.tmps) = true then Oper.wp P o a w K Q else K (a.put o.dst undef) w)
    (hend : ∀ listed a w, listed.size = ops.size → I listed a w → (∀ i, i < ops.size → listed.getD i true = true) → Q .normal a w) : (Code.region id ops true).wp P Q a w := by
  refine wp_region_any hm (wpAny_inv I hd ?_ hend ops.size _ a w.drew (by simp) (by simp) h0)
  intro listed a w hs hI i hi
  obtain ⟨hun, o, ho, hall⟩ := mem_ready.1 hi
  exact wpOp_step ho (fun K hK => hstep i o ho listed a w hs hI hun hall K hK)

/-- six slots set -/
def put6 (a : Act) (d1 d2 d3 d4 d5 d6 : Tmp) (v1 v2 v3 v4 v5 v6 : Value) : Act := (((((a.put (some d1) v1).put (some d2) v2).put (some d3) v3).put (some d4) v4).put (some d5) v5).put (some d6) v6
/-- the rule with six slots that vary -/
theorem wp_region_inv6 {P : Program} {ops : Array Oper} {Q : Exit → Act → World → Prop} {id : Nat} {a0 : Act} {w : World} (d1 d2 d3 d4 d5 d6 : Tmp) (v1 v2 v3 v4 v5 v6 : Value)
    (J : Array Bool → Value → Value → Value → Value → Value → Value → World → Prop) (hm : P.follows .mixedOrders = true) (hd : edgesDown .any ops = true)
    (he : a0 = put6 a0 d1 d2 d3 d4 d5 d6 v1 v2 v3 v4 v5 v6) (h0 : J (Array.replicate ops.size false) v1 v2 v3 v4 v5 v6 w.drew)
    (hstep : ∀ i o, ops[i]? = some o → ∀ listed s1 s2 s3 s4 s5 s6 w, listed.size = ops.size → J listed s1 s2 s3 s4 s5 s6 w → listed.getD i false = false → (∀ e ∈ o.after, Region.binds .any e = true → listed.getD e.on false = true) →
      ∀ K : Act → World → Prop, Shut (∀ t1 t2 t3 t4 t5 t6 w, J (listed.setIfInBounds i true) t1 t2 t3 t4 t5 t6 w → K (put6 a0 d1 d2 d3 d4 d5 d6 t1 t2 t3 t4 t5 t6) w) →
      if Region.wanted o (yielded ops (put6 a0 d1 d2 d3 d4 d5 d6 s1 s2 s3 s4 s5 s6).tmps) = true then Oper.wp P o (put6 a0 d1 d2 d3 d4 d5 d6 s1 s2 s3 s4 s5 s6) w K Q else K ((put6 a0 d1 d2 d3 d4 d5 d6 s1 s2 s3 s4 s5 s6).put o.dst undef) w)
    (hend : ∀ listed s1 s2 s3 s4 s5 s6 w, listed.size = ops.size → J listed s1 s2 s3 s4 s5 s6 w → (∀ i, i < ops.size → listed.getD i true = true) → Q .normal (put6 a0 d1 d2 d3 d4 d5 d6 s1 s2 s3 s4 s5 s6) w) : (Code.region id ops true).wp P Q a0 w := by
  refine wp_region_inv (fun L a w => ∃ s1 s2 s3 s4 s5 s6, a = put6 a0 d1 d2 d3 d4 d5 d6 s1 s2 s3 s4 s5 s6 ∧ J L s1 s2 s3 s4 s5 s6 w) hm hd ⟨_, _, _, _, _, _, he, h0⟩ ?_ ?_
  · rintro i o ho L a w hs ⟨s1, s2, s3, s4, s5, s6, rfl, hJ⟩ hun hall K hK
    refine hstep i o ho L s1 s2 s3 s4 s5 s6 w hs hJ ?_ hall K (fun t1 t2 t3 t4 t5 t6 w h => hK.out _ _ ⟨_, _, _, _, _, _, rfl, h⟩)
    by_cases hi : i < L.size
    · simpa [Array.getD, hi] using hun
    · simp [Array.getD, hi]
  · rintro L a w hs ⟨s1, s2, s3, s4, s5, s6, rfl, hJ⟩ hall
    exact hend L s1 s2 s3 s4 s5 s6 w hs hJ hall

end Go.Proofs.Ytmimmckhnomcdaa
/- A region that draws its order: each operation is shown once to give its own fact, which lasts; the stores come last, one by one. -/
namespace Go.Proofs.Ytmimmckhnomcdaa
open Go.RowKit

/-- a fact of a slot's value that lasts while memory grows -/
structure SFact where
  P : Value → World → Prop
  st : ∀ v w w', P v w → Below w.heap.size w w' → P v w'
def putAll (a : Act) : List Tmp → List Value → Act
  | d :: ds, v :: vs => putAll (a.put (some d) v) ds vs
  | _, _ => a
/-- i waits for j, by at most so many steps -/
def reach (md : Region.Mode) (ops : Array Oper) : Nat → Nat → Nat → Bool
  | 0, _, _ => false
  | f + 1, i, j => (ops[i]?).any fun o => (o.after.any fun e => Region.binds md e && e.on == j) || (o.after.any fun e => Region.binds md e && reach md ops f e.on j)
def storesWait (md : Region.Mode) (ops : Array Oper) (n : Nat) : Bool := (List.range ops.size).all fun i => decide (i < n) || (List.range n).all fun j => reach md ops 6 i j
def Closed (md : Region.Mode) (ops : Array Oper) (L : Array Bool) : Prop := ∀ j o, ops[j]? = some o → L.getD j false = true → ∀ e ∈ o.after, Region.binds md e = true → L.getD e.on false = true
theorem reach_listed {md : Region.Mode} {ops : Array Oper} {L : Array Bool} (hc : Closed md ops L) : ∀ (f i : Nat) (o : Oper) (j : Nat), ops[i]? = some o → (∀ e ∈ o.after, Region.binds md e = true → L.getD e.on false = true) → reach md ops f i j = true → L.getD j false = true
  | 0, _, _, _, _, _, h => by cases h
  | f + 1, i, o, j, ho, hall, h => by
    simp only [reach, ho, Option.any_some, Bool.or_eq_true] at h
    rcases h with h | h
    · obtain ⟨e, he, hb⟩ := Array.any_eq_true'.1 h
      simp only [Bool.and_eq_true, beq_iff_eq] at hb
      rw [← hb.2]; exact hall e he hb.1
    · obtain ⟨e, he, hb⟩ := Array.any_eq_true'.1 h
      simp only [Bool.and_eq_true] at hb
      have hl := hall e he hb.1
      cases hoe : ops[e.on]? with
      | none =>
        exfalso
        have h2 := hb.2
        cases f with
        | zero => cases h2
        | succ f => simp [reach, hoe] at h2
      | some o' => exact reach_listed hc f e.on o' j hoe (hc e.on o' hoe hl) hb.2
theorem getD_put {a : Act} {ds : List Tmp} {vs : List Value} {d : Tmp} {v : Value} (hd : d ∉ ds) : putAll (a.put (some d) v) ds vs = (putAll a ds vs).put (some d) v := by
  induction ds generalizing a vs with
  | nil => rfl
  | cons d' ds ih =>
    cases vs with
    | nil => rfl
    | cons v' vs =>
      simp only [putAll]
      have hne : d' ≠ d := fun e => hd (by simp [e])
      rw [Act.put_comm a v v' (x := some d) (y := some d') (by intro x hx hy; cases hx; cases hy; exact hne rfl)]
      exact ih (fun h => hd (by simp [h]))
theorem putAll_set {a : Act} {ds : List Tmp} {vs : List Value} {i : Nat} {d : Tmp} {v : Value} (hn : ds.Nodup) (hi : ds[i]? = some d) (hl : vs.length = ds.length) : (putAll a ds vs).put (some d) v = putAll a ds (vs.set i v) := by
  induction ds generalizing a vs i with
  | nil => simp at hi
  | cons d' ds ih =>
    cases vs with
    | nil => simp at hl
    | cons v' vs =>
      rw [List.nodup_cons] at hn
      cases i with
      | zero =>
        simp at hi; subst hi
        simp only [putAll, List.set_cons_zero]
        rw [← getD_put hn.1]
        congr 1
        unfold Act.put
        simp [Array.setIfInBounds_setIfInBounds]
      | succ i =>
        simp only [putAll, List.set_cons_succ]
        exact ih hn.2 (by simpa using hi) (by simpa using hl)

def dstsAre (ops : Array Oper) (n : Nat) (ds : List Tmp) : Bool := (List.range n).all fun i => (ops[i]?).all fun o => o.dst == ds[i]?
theorem getD_set_list {l : List Value} {i j : Nat} {v : Value} (h : i ≠ j) : (l.set i v).getD j undef = l.getD j undef := by
  simp [List.getD, List.getElem?_set_ne h]
theorem getD_set_list_self {l : List Value} {i : Nat} {v : Value} (h : i < l.length) : (l.set i v).getD i undef = v := by
  simp [List.getD, h]

theorem wpAny_facts {P : Program} {ops : Array Oper} {Q : Exit → Act → World → Prop} {a0 : Act} {w0 : World} (n s : Nat) (hsize : ops.size = n + s) (ds : List Tmp) (f : Nat → SFact) (al : List Nat)
    (hd : edgesDown .any ops = true) (hsw : storesWait .any ops n = true) (hdn : ds.Nodup) (hlen : ds.length = n) (hds : dstsAre ops n ds = true)
    (hal : ∀ i ∈ al, ∀ v w, (f i).P v w → ∃ g, v = .pointer (some ⟨g, 0, none⟩) ∧ g < w.heap.size)
    (hstep : ∀ i o, i < n → ops[i]? = some o → ∀ vs w, vs.length = n → Below w0.heap.size w0 w → (∀ e ∈ o.after, Region.binds .any e = true → (f e.on).P (vs.getD e.on undef) w) →
      ∀ K : Act → World → Prop, Shut (∀ v w', (f i).P v w' → Below w.heap.size w w' → (i ∈ al → v = .pointer (some ⟨w.heap.size, 0, none⟩)) → K ((putAll a0 ds vs).put o.dst v) w') →
        if Region.wanted o (yielded ops (putAll a0 ds vs).tmps) = true then Oper.wp P o (putAll a0 ds vs) w K Q else K ((putAll a0 ds vs).put o.dst undef) w)
    (hend : ∀ vs w, vs.length = n → Below w0.heap.size w0 w → (∀ i, i < n → (f i).P (vs.getD i undef) w) → (∀ i ∈ al, ∀ j ∈ al, i ≠ j → vs.getD i undef ≠ vs.getD j undef) →
      wpAny P .any ops Q s ((List.replicate n true ++ List.replicate s false).toArray) (putAll a0 ds vs) w) :
    ∀ (c : Nat) (L : Array Bool) (vs : List Value) (w : World), (L.toList.take n).count false = c → L.size = n + s → (∀ j, n ≤ j → j < n + s → L.getD j true = false) → Closed .any ops L → vs.length = n → Below w0.heap.size w0 w →
      (∀ i, i < n → L.getD i false = true → (f i).P (vs.getD i undef) w) → (∀ i ∈ al, ∀ j ∈ al, i < n → j < n → i ≠ j → L.getD i false = true → L.getD j false = true → vs.getD i undef ≠ vs.getD j undef) →
      (∀ i ∈ al, i < n) → wpAny P .any ops Q (c + s) L (putAll a0 ds vs) w := by
  intro c
  induction c with
  | zero =>
    intro L vs w hc hs hst hcl hvl hb hf hdist haln
    have hall : ∀ i, i < n → L.getD i false = true := fun i hi => by
      have hil : i < L.size := by omega
      cases hb : L[i] with
      | true => simp [Array.getD, hil, hb]
      | false =>
        exfalso
        have hmem : false ∈ L.toList.take n := by
          rw [List.mem_take_iff_getElem]
          exact ⟨i, by simp; omega, by simpa using hb⟩
        have := List.count_pos_iff.2 hmem
        omega
    have hL : L = (List.replicate n true ++ List.replicate s false).toArray := by
      apply Array.ext
      · simp [hs]
      · intro i hi hi2
        by_cases h : i < n
        · have := hall i h
          simp only [Array.getD, hi] at this
          simp [h]
          simpa using this
        · have := hst i (by omega) (by omega)
          simp only [Array.getD, hi] at this
          simp [List.getElem_append, h]
          simpa using this
    rw [Nat.zero_add, hL]
    exact hend vs w hvl hb (fun i hi => hf i hi (hall i hi)) (fun i hi j hj hne => hdist i hi j hj (haln i hi) (haln j hj) hne (hall i (haln i hi)) (hall j (haln j hj)))
  | succ c ih =>
    intro L vs w hc hs hst hcl hvl hb hf hdist haln
    have hnot : ¬ ∀ i, i < n → L.getD i false = true := fun hall => by
      have : (L.toList.take n).count false = 0 := by
        rw [List.count_eq_zero]
        intro hmem
        rw [List.mem_take_iff_getElem] at hmem
        obtain ⟨i, hi, hif⟩ := hmem
        have hi' : i < L.size := by simp at hi; omega
        have := hall i (by simp at hi; omega)
        have h2 : L.getD i false = L[i] := by simp [Array.getD, hi']
        rw [h2] at this
        rw [Array.getElem_toList] at hif
        rw [hif] at this
        cases this
      omega
    rw [show c + 1 + s = (c + s) + 1 by omega]
    refine ⟨fun hr => ?_, fun i hi => ?_⟩
    · exfalso
      apply hnot
      intro i hi
      have := all_listed hd (by rw [hs, hsize]) hr i (by omega)
      have hil : i < L.size := by omega
      simpa [Array.getD, hil] using this
    · obtain ⟨hun, o, ho, hall⟩ := mem_ready.1 hi
      have hio : i < ops.size := (Array.getElem?_eq_some_iff.1 ho).1
      have hil : i < L.size := by omega
      have hin : i < n := by
        rcases Nat.lt_or_ge i n with h | h
        · exact h
        · exfalso
          apply hnot
          intro j hj
          have h1 := List.all_eq_true.1 hsw i (by simpa using hio)
          simp only [Bool.or_eq_true, decide_eq_true_eq] at h1
          rcases h1 with h1 | h1
          · omega
          · exact reach_listed hcl 6 i o j ho hall (List.all_eq_true.1 h1 j (by simpa using hj))
      have hdst : o.dst = ds[i]? := by
        have h1 := List.all_eq_true.1 hds i (by simpa using hin)
        rw [ho] at h1
        simpa using h1
      have hdi : ds[i]? = some (ds[i]'(by omega)) := by simp
      refine wpOp_step ho (fun K hK => hstep i o hin ho vs w hvl hb (fun e he hbd => ?_) K (fun v w' hv hb' hp => ?_))
      · have hl := hall e he hbd
        have hlt : e.on < n := by
          rcases Nat.lt_or_ge e.on n with h | h
          · exact h
          · exfalso
            rcases Nat.lt_or_ge e.on (n + s) with h2 | h2
            · have := hst e.on h h2
              have hl2 : e.on < L.size := by omega
              simp only [Array.getD, hl2] at this hl
              simp at this hl
              rw [this] at hl; cases hl
            · have : ¬ e.on < L.size := by omega
              simp [Array.getD, this] at hl
        exact hf e.on hlt hl
      · apply hK
        rw [hdst, hdi, putAll_set hdn hdi (by omega)]
        have hset : ∀ j, i ≠ j → (L.setIfInBounds i true).getD j false = L.getD j false := fun j h => getD_set_ne false h
        refine ih (L.setIfInBounds i true) (vs.set i v) w' ?_ (by simpa using hs) ?_ ?_ (by simpa using hvl) (hb.trans (hb'.mono hb.size)) ?_ ?_ haln
        · have hf' : (L.toList.take n)[i]'(by simp; omega) = false := by
            simp only [List.getElem_take]
            simpa [Array.getD, hil] using hun
          have := count_false_set (L.toList.take n) i (by simp; omega) hf'
          rw [Array.toList_setIfInBounds, ← List.take_set] at *
          omega
        · intro j hj hj2
          rw [getD_set_ne true (by omega)]
          exact hst j hj hj2
        · intro j o' hjo hjl e he hbd
          by_cases hji : i = j
          · subst hji
            rw [ho] at hjo
            cases hjo
            exact getD_set_true (hall e he hbd)
          · rw [hset j hji] at hjl
            exact getD_set_true (hcl j o' hjo hjl e he hbd)
        · intro j hj hjl
          by_cases hji : i = j
          · subst hji
            rw [getD_set_list_self (by omega)]
            exact hv
          · rw [hset j hji] at hjl
            rw [getD_set_list hji]
            exact (f j).st _ _ _ (hf j hj hjl) hb'
        · intro j hj k hk hjn hkn hjk hjl hkl
          have old : ∀ x, x ∈ al → x < n → i ≠ x → (L.setIfInBounds i true).getD x false = true → vs.getD x undef ≠ .pointer (some ⟨w.heap.size, 0, none⟩) := fun x hx hxn hix hxl => by
            rw [hset x hix] at hxl
            obtain ⟨g, hg, hgl⟩ := hal x hx _ _ (hf x hxn hxl)
            rw [hg]
            intro e
            injection e with e
            injection e with e
            injection e with e
            omega
          by_cases hji : i = j
          · subst hji
            rw [getD_set_list_self (by omega), getD_set_list hjk, hp hj]
            exact (old k hk hkn hjk hkl).symm
          · by_cases hki : i = k
            · subst hki
              rw [getD_set_list_self (by omega), getD_set_list hji, hp hk]
              exact old j hj hjn hji hjl
            · rw [getD_set_list hji, getD_set_list hki]
              rw [hset j hji] at hjl
              rw [hset k hki] at hkl
              exact hdist j hj k hk hjn hkn hjk hjl hkl

theorem wp_region_facts {P : Program} {ops : Array Oper} {Q : Exit → Act → World → Prop} {id : Nat} {a0 : Act} {w0 : World} (n s : Nat) (ds : List Tmp) (vs0 : List Value) (f : Nat → SFact) (al : List Nat) (hm : P.follows .mixedOrders = true)
    (hsize : ops.size = n + s) (hd : edgesDown .any ops = true) (hsw : storesWait .any ops n = true) (hdn : ds.Nodup) (hlen : ds.length = n) (hds : dstsAre ops n ds = true) (hv0 : vs0.length = n) (haln : ∀ i ∈ al, i < n)
    (he : a0 = putAll a0 ds vs0) (hal : ∀ i ∈ al, ∀ v w, (f i).P v w → ∃ g, v = .pointer (some ⟨g, 0, none⟩) ∧ g < w.heap.size)
    (hstep : ∀ i o, i < n → ops[i]? = some o → ∀ vs w, vs.length = n → Below w0.heap.size w0 w → (∀ e ∈ o.after, Region.binds .any e = true → (f e.on).P (vs.getD e.on undef) w) →
      ∀ K : Act → World → Prop, Shut (∀ v w', (f i).P v w' → Below w.heap.size w w' → (i ∈ al → v = .pointer (some ⟨w.heap.size, 0, none⟩)) → K ((putAll a0 ds vs).put o.dst v) w') →
        if Region.wanted o (yielded ops (putAll a0 ds vs).tmps) = true then Oper.wp P o (putAll a0 ds vs) w K Q else K ((putAll a0 ds vs).put o.dst undef) w)
    (hend : ∀ vs w, vs.length = n → Below w0.heap.size w0 w → (∀ i, i < n → (f i).P (vs.getD i undef) w) → (∀ i ∈ al, ∀ j ∈ al, i ≠ j → vs.getD i undef ≠ vs.getD j undef) →
      wpAny P .any ops Q s ((List.replicate n true ++ List.replicate s false).toArray) (putAll a0 ds vs) w) : (Code.region id ops true).wp P Q a0 w0 := by
  refine wp_region_any hm ?_
  have := wpAny_facts (a0 := a0) (w0 := w0) n s hsize ds f al hd hsw hdn hlen hds hal hstep hend n (Array.replicate ops.size false) vs0 w0.drew
    (by rw [hsize]; simp [List.take_replicate, Nat.min_eq_left (Nat.le_add_right n s)]) (by simp [hsize]) (by intro j hj hj2; simp [Array.getD, hsize, hj2]) (by intro j o _ h; simp [Array.getD] at h) hv0 ((Below.refl _ _).drew)
    (by intro i _ h; simp [Array.getD] at h) (by intro i _ j _ _ _ _ h; simp [Array.getD] at h) haln
  rw [← he, ← hsize] at this
  exact this
theorem wpAny_one {P : Program} {ops : Array Oper} {Q : Exit → Act → World → Prop} {md : Region.Mode} {i fuel : Nat} {o : Oper} {listed : Array Bool} {a : Act} {w : World} (hr : Region.ready md ops listed = [i]) (ho : ops[i]? = some o)
    (h : ∀ K : Act → World → Prop, Shut (∀ a w, wpAny P md ops Q fuel (listed.setIfInBounds i true) a w → K a w) → if Region.wanted o (yielded ops a.tmps) = true then Oper.wp P o a w K Q else K (a.put o.dst undef) w) : wpAny P md ops Q (fuel + 1) listed a w := by
  refine ⟨fun h0 => (by rw [hr] at h0; cases h0), ?_⟩
  rw [hr]
  intro j hj
  obtain rfl : j = i := by simpa using hj
  exact wpOp_step ho (fun K hK => h K hK)
end Go.Proofs.Ytmimmckhnomcdaa
/- Steps of a drawn region: an append to a row of the call's own, or to one that was there. -/
namespace Go.Proofs.Ytmimmckhnomcdaa
open Go.RowKit Big

/-- 'append(v, x...)', v a row of the call's own, as one step of a region -/
theorem step_append {P : Program} {w : World} {o : Oper} {a : Act} {K : Act → World → Prop} {Q : Exit → Act → World → Prop} (s x : Operand) (t : TypeId)
    (ho : o.op = .call { callee := .builtin .append, args := #[s, x], argTypes := #[t, t] })
    (base : Nat) (e : TypeId) (i : TypeInfo) (z : Value) (size bytes : Nat) (ht : P.underlying t = some (.slice e)) (hi : P.info? e = some i) (hz : i.zero = some z)
    (hsize : i.size = size) (hby : i.bytes = bytes) (hzs : z.cells.size = size) (hsz : 0 < size)
    (v : Value) (n : Nat) (xs : List Value) (hs : a.eval s = v) (hown : w.ownsRow base e size v n xs)
    (ad : Addr) (m c : Nat) (news : List Value) (hx : a.eval x = .slice (some ad) m c) (hl : news.length = m * size) (hnews : ∀ j u, news[j]? = some u → w.cell? (ad.add j) = some u) (h1 : ∀ u ∈ news, u.oneCell' = true)
    (h63 : n + m ≤ maxLen) (hbytes : (n + m) * bytes ≤ 140737488355328) (hbase : base ≤ w.heap.size)
    (h : ∀ v' w', w'.ownsRow base e size v' (n + m) (xs ++ news) → w.grownBy w' v.ownBlock → (v'.ownBlock = v.ownBlock ∨ v'.ownBlock = some w.heap.size) → K (a.put o.dst v') w') :
    Oper.wp P o a w K Q := by
  obtain ⟨v', w', hr, h2, h3, -, h4⟩ := run_append_own_at (P := P) w base t o.type e i z size bytes ht hi hz hsize hby hzs hsz v n xs hown ad m c news hl hnews h1 h63 hbytes hbase
  unfold Oper.wp
  simp [execOp, ho, resolve, invoke, builtin, hs, hx, hr, Result.andThen]
  exact h v' w' h2 h3 h4

theorem step_append_none {P : Program} {w : World} {o : Oper} {a : Act} {K : Act → World → Prop} {Q : Exit → Act → World → Prop} (s x : Operand) (t : TypeId)
    (ho : o.op = .call { callee := .builtin .append, args := #[s, x], argTypes := #[t, t] })
    (base : Nat) (e : TypeId) (i : TypeInfo) (size : Nat) (ht : P.underlying t = some (.slice e)) (hi : P.info? e = some i)
    (v : Value) (n : Nat) (xs : List Value) (hs : a.eval s = v) (hown : w.ownsRow base e size v n xs) (hx : a.eval x = .slice none 0 0)
    (h : K (a.put o.dst v) w) : Oper.wp P o a w K Q := by
  have hrun := run_append_owned_none (P := P) (w := w) base t o.type e i size ht hi v n xs hown
  unfold Oper.wp
  simp [execOp, ho, resolve, invoke, builtin, hs, hx, hrun, Result.andThen]
  exact h
end Go.Proofs.Ytmimmckhnomcdaa
/- A rank in memory: its four fields, the rows of weights, of those that wait, of places. -/
namespace Go.Proofs.Ytmimmckhnomcdaa
open Go.RowKit Big

theorem tag_ne {w : World} {k g : Nat} {c c' : Array Value} {t t' : TypeId} (h : w.heap[k]? = some (.cells c t (0, 0))) (h' : w.heap[g]? = some (.cells c' t' (0, 0))) (hne : t ≠ t') : k ≠ g := by
  rintro rfl
  rw [h] at h'
  injection h' with h'
  injection h' with _ h2
  exact hne h2
theorem row_ne {w : World} {b : Nat} {e : TypeId} {s : Nat} {v : Value} {n g : Nat} {xs : List Value} {c : Array Value} {t : TypeId} (h : w.ownsRow b e s v n xs) (h' : w.heap[g]? = some (.cells c t (0, 0))) (hne : e ≠ t) : ∀ k, v.ownBlock = some k → k ≠ g := fun k hk => by
  obtain ⟨c', hc⟩ := row_tag h k hk
  exact tag_ne hc h' hne
theorem ownsRow_shape {w : World} {base : Nat} {e : TypeId} {size : Nat} {v : Value} {n : Nat} {xs : List Value} (h : w.ownsRow base e size v n xs) : ∃ p c, v = .slice p n c := by
  rcases h.2 with ⟨rfl, h0⟩ | ⟨g, cap, cur, rfl, _⟩
  · exact ⟨none, 0, by rw [h0]⟩
  · exact ⟨_, _, rfl⟩
/-- the cells of a row that is not empty -/
theorem Own.cells0 {w : World} {b : Nat} {e : TypeId} {k : IntKind} {v : Value} {l : List Nat} (h : Own w b e k v l) (h0 : 0 < l.length) :
    ∃ g cap, v = .slice (some ⟨g, 0, none⟩) l.length cap ∧ l.length ≤ cap ∧ cap ≤ maxLen ∧ g < w.heap.size ∧ (∀ i, i < l.length → w.cell? ⟨g, i, none⟩ = some (.int k (at0 l i : Nat))) ∧ ∀ i, w.frozen? ⟨g, i, none⟩ = false := by
  have h' := h
  unfold Own at h'
  rcases h'.2 with ⟨rfl, h1⟩ | ⟨g, cap, cur, rfl, _, hg, hn, hm, _, _⟩
  · omega
  · refine ⟨g, cap, rfl, hn, hm, (Array.getElem?_eq_some_iff.1 hg).1, fun i hi => ?_, fun i => World.ownsRow.frozenAt h' i⟩
    rw [World.ownsRow.cellAt h' i (by omega), at0_eq hi]
    simp [ints, hi]
theorem ints_set (k : IntKind) (l : List Nat) (i x : Nat) : (ints k l).set i (.int k (x : Nat)) = ints k (l.set i x) := by
  unfold ints
  rw [List.map_set]
theorem Own.store {w : World} {b : Nat} {e : TypeId} {k : IntKind} {g n cap : Nat} {l : List Nat} (h : Own w b e k (.slice (some ⟨g, 0, none⟩) n cap) l) (i x : Nat) (hi : i < l.length) :
    Own (w.setCell ⟨g, i, none⟩ (.int k (x : Nat))) b e k (.slice (some ⟨g, 0, none⟩) n cap) (l.set i x) := by
  unfold Own at h ⊢
  obtain ⟨p, c, hv⟩ := ownsRow_shape h
  obtain rfl : n = l.length := by injection hv
  have := (World.ownsRow.stored h i (.int k (x : Nat))).1
  rw [ints_set] at this
  rw [List.length_set]
  exact this

structure RkM (w : World) (S : Nat → Prop) (r : Nat) (vw vq vp : Value) (ws q pl : List Nat) (ab : Nat) : Prop where
  own : S r
  cell : w.heap[r]? = some (.cells #[vw, vq, vp, .int .u64 (ab : Nat)] 45 (0, 0))
  weights : Own w 0 34 .u64 vw ws
  weightsIn : InS S vw
  waiting : Own w 0 3 .i64 vq q
  waitingIn : InS S vq
  places : Own w 0 3 .i64 vp pl
  placesIn : InS S vp
  apart : ∀ k, vq.ownBlock = some k → vp.ownBlock ≠ some k
variable {w w0 w' : World} {S S' : Nat → Prop} {r : Nat} {vw vq vp : Value} {ws q pl : List Nat} {ab : Nat}
theorem RkM.lt (H : RkM w S r vw vq vp ws q pl ab) : r < w.heap.size := (Array.getElem?_eq_some_iff.1 H.cell).1
theorem RkM.stays (H : RkM w S r vw vq vp ws q pl ab) (hS : ∀ k, S k → S' k) (hb : ∀ k, S k → k < w.heap.size → w'.heap[k]? = w.heap[k]?) : RkM w' S' r vw vq vp ws q pl ab :=
  ⟨hS r H.own, (hb r H.own H.lt).trans H.cell, row_stays H.weights fun k hk => hb k (H.weightsIn k hk) (World.ownsRow.lt H.weights k hk).2, H.weightsIn.mono hS,
    row_stays H.waiting fun k hk => hb k (H.waitingIn k hk) (World.ownsRow.lt H.waiting k hk).2, H.waitingIn.mono hS, row_stays H.places fun k hk => hb k (H.placesIn k hk) (World.ownsRow.lt H.places k hk).2, H.placesIn.mono hS, H.apart⟩
theorem RkM.below (H : RkM w S r vw vq vp ws q pl ab) (hb : Below w.heap.size w w') : RkM w' S r vw vq vp ws q pl ab := H.stays (fun _ h => h) fun k _ hk => hb.block k hk
theorem RkM.bound (H : RkM w S r vw vq vp ws q pl ab) : RkM w (fun k => S k ∧ k < w.heap.size) r vw vq vp ws q pl ab := by
  have hin : ∀ {b e s v n} {xs : List Value}, w.ownsRow b e s v n xs → InS S v → InS (fun k => S k ∧ k < w.heap.size) v := fun h hi k hk => ⟨hi k hk, (World.ownsRow.lt h k hk).2⟩
  exact ⟨⟨H.own, H.lt⟩, H.cell, H.weights, hin H.weights H.weightsIn, H.waiting, hin H.waiting H.waitingIn, H.places, hin H.places H.placesIn, H.apart⟩
/-- a new row of those that wait -/
theorem RkM.newQ (H : RkM w0 S r vw vq vp ws q pl ab) {v' : Value} {q' : List Nat} (hA : Apart (fun k => vq.ownBlock = some k) w0 w) (hrow : Own w 0 3 .i64 v' q')
    (hv : v'.ownBlock = vq.ownBlock ∨ ∀ k, v'.ownBlock = some k → w0.heap.size ≤ k) (hI : InS S v') : RkM (w.setCell ⟨r, 1, none⟩ v') S r vw v' vp ws q' pl ab := by
  have hqr := row_ne H.waiting H.cell (by decide)
  have hg : w.heap[r]? = w0.heap[r]? := hA.block r H.lt fun e => hqr r e rfl
  have E : ∀ k, k < w0.heap.size → k ≠ r → vq.ownBlock ≠ some k → (w.setCell ⟨r, 1, none⟩ v').heap[k]? = w0.heap[k]? := fun k hk hne ho => (Below.heap_setCell _ _ _ _ hne).trans (hA.block k hk ho)
  refine ⟨H.own, ?_, row_stays H.weights fun k hk => E k (World.ownsRow.lt H.weights k hk).2 (row_ne H.weights H.cell (by decide) k hk) (row_apart_type H.weights H.waiting (by decide) k hk), H.weightsIn, ?_, ?_,
    row_stays H.places fun k hk => E k (World.ownsRow.lt H.places k hk).2 (row_ne H.places H.cell (by decide) k hk) (fun e => H.apart k e hk), H.placesIn, ?_⟩
  · have := heap_setCell_same w r 1 _ _ v' (hg.trans H.cell)
    simpa using this
  · refine row_stays hrow fun k hk => Below.heap_setCell _ _ _ _ ?_
    rcases hv with e | h
    · exact hqr k (by rw [← e]; exact hk)
    · have := h k hk
      have := H.lt
      show k ≠ r
      omega
  · exact hI
  · intro k hk
    rcases hv with e | h
    · exact H.apart k (by rw [← e]; exact hk)
    · intro e
      have := h k hk
      have := (World.ownsRow.lt H.places k e).2
      omega
theorem RkM.newP (H : RkM w0 S r vw vq vp ws q pl ab) {v' : Value} {q' : List Nat} (hA : Apart (fun k => vp.ownBlock = some k) w0 w) (hrow : Own w 0 3 .i64 v' q')
    (hv : v'.ownBlock = vp.ownBlock ∨ ∀ k, v'.ownBlock = some k → w0.heap.size ≤ k) (hI : InS S v') : RkM (w.setCell ⟨r, 2, none⟩ v') S r vw vq v' ws q q' ab := by
  have hqr := row_ne H.places H.cell (by decide)
  have hg : w.heap[r]? = w0.heap[r]? := hA.block r H.lt fun e => hqr r e rfl
  have E : ∀ k, k < w0.heap.size → k ≠ r → vp.ownBlock ≠ some k → (w.setCell ⟨r, 2, none⟩ v').heap[k]? = w0.heap[k]? := fun k hk hne ho => (Below.heap_setCell _ _ _ _ hne).trans (hA.block k hk ho)
  refine ⟨H.own, ?_, row_stays H.weights fun k hk => E k (World.ownsRow.lt H.weights k hk).2 (row_ne H.weights H.cell (by decide) k hk) (row_apart_type H.weights H.places (by decide) k hk), H.weightsIn,
    row_stays H.waiting fun k hk => E k (World.ownsRow.lt H.waiting k hk).2 (row_ne H.waiting H.cell (by decide) k hk) (H.apart k hk), H.waitingIn, ?_, ?_, ?_⟩
  · have := heap_setCell_same w r 2 _ _ v' (hg.trans H.cell)
    simpa using this
  · refine row_stays hrow fun k hk => Below.heap_setCell _ _ _ _ ?_
    rcases hv with e | h
    · exact hqr k (by rw [← e]; exact hk)
    · have := h k hk
      have := H.lt
      show k ≠ r
      omega
  · exact hI
  · intro k hk hk'
    rcases hv with e | h
    · exact H.apart k hk (by rw [← e]; exact hk')
    · have := h k hk'
      have := (World.ownsRow.lt H.waiting k hk).2
      omega
theorem RkM.newW (H : RkM w0 S r vw vq vp ws q pl ab) {v' : Value} {q' : List Nat} (hA : Apart (fun k => vw.ownBlock = some k) w0 w) (hrow : Own w 0 34 .u64 v' q')
    (hv : v'.ownBlock = vw.ownBlock ∨ ∀ k, v'.ownBlock = some k → w0.heap.size ≤ k) (hI : InS S v') : RkM (w.setCell ⟨r, 0, none⟩ v') S r v' vq vp q' q pl ab := by
  have hqr := row_ne H.weights H.cell (by decide)
  have hg : w.heap[r]? = w0.heap[r]? := hA.block r H.lt fun e => hqr r e rfl
  have E : ∀ k, k < w0.heap.size → k ≠ r → vw.ownBlock ≠ some k → (w.setCell ⟨r, 0, none⟩ v').heap[k]? = w0.heap[k]? := fun k hk hne ho => (Below.heap_setCell _ _ _ _ hne).trans (hA.block k hk ho)
  refine ⟨H.own, ?_, ?_, ?_, row_stays H.waiting fun k hk => E k (World.ownsRow.lt H.waiting k hk).2 (row_ne H.waiting H.cell (by decide) k hk) (row_apart_type H.waiting H.weights (by decide) k hk), H.waitingIn,
    row_stays H.places fun k hk => E k (World.ownsRow.lt H.places k hk).2 (row_ne H.places H.cell (by decide) k hk) (row_apart_type H.places H.weights (by decide) k hk), H.placesIn, H.apart⟩
  · have := heap_setCell_same w r 0 _ _ v' (hg.trans H.cell)
    simpa using this
  · refine row_stays hrow fun k hk => Below.heap_setCell _ _ _ _ ?_
    rcases hv with e | h
    · exact hqr k (by rw [← e]; exact hk)
    · have := h k hk
      have := H.lt
      show k ≠ r
      omega
  · exact hI
theorem RkM.newAb (H : RkM w S r vw vq vp ws q pl ab) (x : Nat) : RkM (w.setCell ⟨r, 3, none⟩ (.int .u64 (x : Nat))) S r vw vq vp ws q pl x := by
  have E : ∀ k, k ≠ r → (w.setCell ⟨r, 3, none⟩ (.int .u64 (x : Nat))).heap[k]? = w.heap[k]? := fun k hne => Below.heap_setCell _ _ _ _ hne
  refine ⟨H.own, ?_, row_stays H.weights fun k hk => E k (row_ne H.weights H.cell (by decide) k hk), H.weightsIn, row_stays H.waiting fun k hk => E k (row_ne H.waiting H.cell (by decide) k hk), H.waitingIn,
    row_stays H.places fun k hk => E k (row_ne H.places H.cell (by decide) k hk), H.placesIn, H.apart⟩
  have := heap_setCell_same w r 3 _ _ (.int .u64 (x : Nat)) H.cell
  simpa using this
/-- one cell of a row is written -/
theorem RkM.setQ {g n cap : Nat} (H : RkM w S r vw (.slice (some ⟨g, 0, none⟩) n cap) vp ws q pl ab) (i x : Nat) (hi : i < q.length) : RkM (w.setCell ⟨g, i, none⟩ (.int .i64 (x : Nat))) S r vw (.slice (some ⟨g, 0, none⟩) n cap) vp ws (q.set i x) pl ab := by
  have E : ∀ k, k ≠ g → (w.setCell ⟨g, i, none⟩ (.int .i64 (x : Nat))).heap[k]? = w.heap[k]? := fun k hne => Below.heap_setCell _ _ _ _ hne
  have hgr : g ≠ r := row_ne H.waiting H.cell (by decide) g rfl
  refine ⟨H.own, (E r (Ne.symm hgr)).trans H.cell, row_stays H.weights fun k hk => E k ?_, H.weightsIn, H.waiting.store i x hi, H.waitingIn, row_stays H.places fun k hk => E k ?_, H.placesIn, H.apart⟩
  · rintro rfl; exact row_apart_type H.weights H.waiting (by decide) k hk rfl
  · rintro rfl; exact H.apart k rfl hk
theorem RkM.setP {g n cap : Nat} (H : RkM w S r vw vq (.slice (some ⟨g, 0, none⟩) n cap) ws q pl ab) (i x : Nat) (hi : i < pl.length) : RkM (w.setCell ⟨g, i, none⟩ (.int .i64 (x : Nat))) S r vw vq (.slice (some ⟨g, 0, none⟩) n cap) ws q (pl.set i x) ab := by
  have E : ∀ k, k ≠ g → (w.setCell ⟨g, i, none⟩ (.int .i64 (x : Nat))).heap[k]? = w.heap[k]? := fun k hne => Below.heap_setCell _ _ _ _ hne
  have hgr : g ≠ r := row_ne H.places H.cell (by decide) g rfl
  refine ⟨H.own, (E r (Ne.symm hgr)).trans H.cell, row_stays H.weights fun k hk => E k ?_, H.weightsIn, row_stays H.waiting fun k hk => E k ?_, H.waitingIn, H.places.store i x hi, H.placesIn, H.apart⟩
  · rintro rfl; exact row_apart_type H.weights H.places (by decide) k hk rfl
  · rintro rfl; exact H.apart k hk rfl
theorem RkM.setW {g n cap : Nat} (H : RkM w S r (.slice (some ⟨g, 0, none⟩) n cap) vq vp ws q pl ab) (i x : Nat) (hi : i < ws.length) : RkM (w.setCell ⟨g, i, none⟩ (.int .u64 (x : Nat))) S r (.slice (some ⟨g, 0, none⟩) n cap) vq vp (ws.set i x) q pl ab := by
  have E : ∀ k, k ≠ g → (w.setCell ⟨g, i, none⟩ (.int .u64 (x : Nat))).heap[k]? = w.heap[k]? := fun k hne => Below.heap_setCell _ _ _ _ hne
  have hgr : g ≠ r := row_ne H.weights H.cell (by decide) g rfl
  refine ⟨H.own, (E r (Ne.symm hgr)).trans H.cell, H.weights.store i x hi, H.weightsIn, row_stays H.waiting fun k hk => E k ?_, H.waitingIn, row_stays H.places fun k hk => E k ?_, H.placesIn, H.apart⟩
  · rintro rfl; exact row_apart_type H.waiting H.weights (by decide) k hk rfl
  · rintro rfl; exact row_apart_type H.places H.weights (by decide) k hk rfl
/-- the fields' cells -/
theorem RkM.four (H : RkM w S r vw vq vp ws q pl ab) : (w.cell? ⟨r, 0, none⟩ = some vw ∧ w.cell? ⟨r, 1, none⟩ = some vq ∧ w.cell? ⟨r, 2, none⟩ = some vp ∧ w.cell? ⟨r, 3, none⟩ = some (.int .u64 (ab : Nat))) ∧ ∀ j, w.frozen? ⟨r, j, none⟩ = false := by
  refine ⟨?_, fun j => frozen_of_row w r j _ _ H.cell⟩
  simp [World.cell?, H.cell]
theorem bel_go {u w w' : World} (hb : Below w.heap.size w w') (h : Below u.heap.size u w) : Below u.heap.size u w' := h.trans (hb.mono h.size)
end Go.Proofs.Ytmimmckhnomcdaa
/- queue.Len, queue.Less. -/
namespace Go.Proofs.Ytmimmckhnomcdaa
open Go.RowKit Big

theorem wrap_pred (n : Nat) (h1 : 1 ≤ n) (h2 : n ≤ 1000000000) : IntKind.i64.wrap ((n : Int) - 1) = ((n - 1 : Nat) : Int) := by
  rw [IntWalk.i64_in _ (by omega)]; omega
set_option maxRecDepth 100000 in
set_option maxHeartbeats 1600000 in
theorem Len_any {w : World} {S : Nat → Prop} {r : Nat} {vw vq vp : Value} {ws q pl : List Nat} {ab : Nat} (H : RkM w S r vw vq vp ws q pl ab) :
    Calls Try.prog 50 #[.agg #[.pointer (some ⟨r, 0, none⟩)]] w (RNum .i64 (q.length : Nat) w) := by
  have b1 := below1 w (.cells #[.pointer (some ⟨r, 0, none⟩)] 52)
  have H1 := H.below b1
  obtain ⟨⟨c0, c1, c2, c3⟩, -⟩ := H1.four
  obtain ⟨p, c, rfl⟩ := ownsRow_shape H.waiting
  clear H H1
  go_enter Try.func50, Try.ntmps50
  go_wp2
  go_ret
  exact ⟨rfl, b1⟩
theorem rkLt_ne (ws : List Nat) (v u : Nat) (h : at0 ws (v - 1) ≠ at0 ws (u - 1)) : decide (rkLt ws v u) = decide (at0 ws (u - 1) < at0 ws (v - 1)) := by
  rw [decide_eq_decide]; unfold rkLt; omega
theorem rkLt_eq (ws : List Nat) (v u : Nat) (h : at0 ws (v - 1) = at0 ws (u - 1)) : decide (rkLt ws v u) = decide (v < u) := by
  rw [decide_eq_decide]; unfold rkLt; omega
set_option maxRecDepth 100000 in
set_option maxHeartbeats 1600000 in
theorem Less_any {w : World} {S : Nat → Prop} {r : Nat} {vw vq vp : Value} {ws q pl : List Nat} {ab : Nat} (H : RkM w S r vw vq vp ws q pl ab) (i j : Nat) (hi : i < q.length) (hj : j < q.length)
    (hvi : 1 ≤ at0 q i ∧ at0 q i ≤ ws.length) (hvj : 1 ≤ at0 q j ∧ at0 q j ≤ ws.length) (hn : ws.length ≤ 1000000) :
    Calls Try.prog 51 #[.agg #[.pointer (some ⟨r, 0, none⟩)], .int .i64 (i : Nat), .int .i64 (j : Nat)] w (RBool (decide (rkLt ws (at0 q i) (at0 q j))) w) := by
  have b1 := below1 w (.cells #[.pointer (some ⟨r, 0, none⟩)] 52)
  have H1 := H.below b1
  obtain ⟨⟨c0, c1, c2, c3⟩, -⟩ := H1.four
  obtain ⟨gq, kq, rfl, hq1, hq2, -, mq, -⟩ := H1.waiting.cells0 (by omega)
  obtain ⟨gw, kw, rfl, hw1, hw2, -, mw, -⟩ := H1.weights.cells0 (by omega)
  have m1 := mq i hi
  have m2 := mq j hj
  have m3 := mw (at0 q i - 1) (by omega)
  have m4 := mw (at0 q j - 1) (by omega)
  have hlt := rkLt_ne ws (at0 q i) (at0 q j)
  have hle := rkLt_eq ws (at0 q i) (at0 q j)
  generalize decide (rkLt ws (at0 q i) (at0 q j)) = res at *
  generalize at0 ws (at0 q i - 1) = x at *
  generalize at0 ws (at0 q j - 1) = y at *
  generalize at0 q i = v at *
  generalize at0 q j = u at *
  generalize q.length = L at *
  generalize ws.length = N at *
  have w1 := wrap_pred v (by omega) (by omega)
  have w2 := wrap_pred u (by omega) (by omega)
  have b1 := hid b1; have hvi1 : v - 1 < N := by omega
  have hvj1 : u - 1 < N := by omega
  clear H H1 mq mw
  by_cases hxy : x = y
  · have hres := hid (hle hxy)
    have t1 : ((x : Int) != (y : Int)) = false := by subst hxy; simp
    clear hlt hle hxy
    go_enter Try.func51, Try.ntmps51
    go_wp2_with fail
    go_quiet (fail)
    go_wp2_with fail
    go_quiet (fail)
    go_wp2
    go_ret
    exact ⟨by rw [hres.out]; congr 2, by first | exact below_drewN b1.out _ | exact below_drewN (below_drewN (below_drewN b1.out _) _) _⟩
  · have hres := hid (hlt hxy)
    have t1 : ((x : Int) != (y : Int)) = true := by simp; omega
    clear hlt hle hxy
    go_enter Try.func51, Try.ntmps51
    go_wp2_with fail
    go_quiet (fail)
    go_wp2_with fail
    go_quiet (fail)
    go_wp2_with fail
    go_quiet (fail)
    go_wp2
    go_ret
    exact ⟨by rw [hres.out]; congr 2, by first | exact below_drewN b1.out _ | exact below_drewN (below_drewN (below_drewN b1.out _) _) _⟩
end Go.Proofs.Ytmimmckhnomcdaa
/- Lists of so many values. -/
namespace Go.Proofs.Ytmimmckhnomcdaa

theorem vlen1 {vs : List Value} (h : vs.length = 1) : ∃ v0, vs = [v0] := by
  match vs, h with
  | [v0], _ => exact ⟨v0, rfl⟩
theorem vlen2 {vs : List Value} (h : vs.length = 2) : ∃ v0 v1, vs = [v0, v1] := by
  match vs, h with
  | [v0, v1], _ => exact ⟨v0, v1, rfl⟩
theorem vlen3 {vs : List Value} (h : vs.length = 3) : ∃ v0 v1 v2, vs = [v0, v1, v2] := by
  match vs, h with
  | [v0, v1, v2], _ => exact ⟨v0, v1, v2, rfl⟩
theorem vlen4 {vs : List Value} (h : vs.length = 4) : ∃ v0 v1 v2 v3, vs = [v0, v1, v2, v3] := by
  match vs, h with
  | [v0, v1, v2, v3], _ => exact ⟨v0, v1, v2, v3, rfl⟩
theorem vlen5 {vs : List Value} (h : vs.length = 5) : ∃ v0 v1 v2 v3 v4, vs = [v0, v1, v2, v3, v4] := by
  match vs, h with
  | [v0, v1, v2, v3, v4], _ => exact ⟨v0, v1, v2, v3, v4, rfl⟩
theorem vlen6 {vs : List Value} (h : vs.length = 6) : ∃ v0 v1 v2 v3 v4 v5, vs = [v0, v1, v2, v3, v4, v5] := by
  match vs, h with
  | [v0, v1, v2, v3, v4, v5], _ => exact ⟨v0, v1, v2, v3, v4, v5, rfl⟩
theorem vlen7 {vs : List Value} (h : vs.length = 7) : ∃ v0 v1 v2 v3 v4 v5 v6, vs = [v0, v1, v2, v3, v4, v5, v6] := by
  match vs, h with
  | [v0, v1, v2, v3, v4, v5, v6], _ => exact ⟨v0, v1, v2, v3, v4, v5, v6, rfl⟩
theorem vlen8 {vs : List Value} (h : vs.length = 8) : ∃ v0 v1 v2 v3 v4 v5 v6 v7, vs = [v0, v1, v2, v3, v4, v5, v6, v7] := by
  match vs, h with
  | [v0, v1, v2, v3, v4, v5, v6, v7], _ => exact ⟨v0, v1, v2, v3, v4, v5, v6, v7, rfl⟩
theorem vlen9 {vs : List Value} (h : vs.length = 9) : ∃ v0 v1 v2 v3 v4 v5 v6 v7 v8, vs = [v0, v1, v2, v3, v4, v5, v6, v7, v8] := by
  match vs, h with
  | [v0, v1, v2, v3, v4, v5, v6, v7, v8], _ => exact ⟨v0, v1, v2, v3, v4, v5, v6, v7, v8, rfl⟩
theorem vlen10 {vs : List Value} (h : vs.length = 10) : ∃ v0 v1 v2 v3 v4 v5 v6 v7 v8 v9, vs = [v0, v1, v2, v3, v4, v5, v6, v7, v8, v9] := by
  match vs, h with
  | [v0, v1, v2, v3, v4, v5, v6, v7, v8, v9], _ => exact ⟨v0, v1, v2, v3, v4, v5, v6, v7, v8, v9, rfl⟩
theorem vlen11 {vs : List Value} (h : vs.length = 11) : ∃ v0 v1 v2 v3 v4 v5 v6 v7 v8 v9 v10, vs = [v0, v1, v2, v3, v4, v5, v6, v7, v8, v9, v10] := by
  match vs, h with
  | [v0, v1, v2, v3, v4, v5, v6, v7, v8, v9, v10], _ => exact ⟨v0, v1, v2, v3, v4, v5, v6, v7, v8, v9, v10, rfl⟩
theorem vlen12 {vs : List Value} (h : vs.length = 12) : ∃ v0 v1 v2 v3 v4 v5 v6 v7 v8 v9 v10 v11, vs = [v0, v1, v2, v3, v4, v5, v6, v7, v8, v9, v10, v11] := by
  match vs, h with
  | [v0, v1, v2, v3, v4, v5, v6, v7, v8, v9, v10, v11], _ => exact ⟨v0, v1, v2, v3, v4, v5, v6, v7, v8, v9, v10, v11, rfl⟩
theorem vlen13 {vs : List Value} (h : vs.length = 13) : ∃ v0 v1 v2 v3 v4 v5 v6 v7 v8 v9 v10 v11 v12, vs = [v0, v1, v2, v3, v4, v5, v6, v7, v8, v9, v10, v11, v12] := by
  match vs, h with
  | [v0, v1, v2, v3, v4, v5, v6, v7, v8, v9, v10, v11, v12], _ => exact ⟨v0, v1, v2, v3, v4, v5, v6, v7, v8, v9, v10, v11, v12, rfl⟩
theorem vlen14 {vs : List Value} (h : vs.length = 14) : ∃ v0 v1 v2 v3 v4 v5 v6 v7 v8 v9 v10 v11 v12 v13, vs = [v0, v1, v2, v3, v4, v5, v6, v7, v8, v9, v10, v11, v12, v13] := by
  match vs, h with
  | [v0, v1, v2, v3, v4, v5, v6, v7, v8, v9, v10, v11, v12, v13], _ => exact ⟨v0, v1, v2, v3, v4, v5, v6, v7, v8, v9, v10, v11, v12, v13, rfl⟩
theorem vlen15 {vs : List Value} (h : vs.length = 15) : ∃ v0 v1 v2 v3 v4 v5 v6 v7 v8 v9 v10 v11 v12 v13 v14, vs = [v0, v1, v2, v3, v4, v5, v6, v7, v8, v9, v10, v11, v12, v13, v14] := by
  match vs, h with
  | [v0, v1, v2, v3, v4, v5, v6, v7, v8, v9, v10, v11, v12, v13, v14], _ => exact ⟨v0, v1, v2, v3, v4, v5, v6, v7, v8, v9, v10, v11, v12, v13, v14, rfl⟩
theorem vlen16 {vs : List Value} (h : vs.length = 16) : ∃ v0 v1 v2 v3 v4 v5 v6 v7 v8 v9 v10 v11 v12 v13 v14 v15, vs = [v0, v1, v2, v3, v4, v5, v6, v7, v8, v9, v10, v11, v12, v13, v14, v15] := by
  match vs, h with
  | [v0, v1, v2, v3, v4, v5, v6, v7, v8, v9, v10, v11, v12, v13, v14, v15], _ => exact ⟨v0, v1, v2, v3, v4, v5, v6, v7, v8, v9, v10, v11, v12, v13, v14, v15, rfl⟩
theorem vlen17 {vs : List Value} (h : vs.length = 17) : ∃ v0 v1 v2 v3 v4 v5 v6 v7 v8 v9 v10 v11 v12 v13 v14 v15 v16, vs = [v0, v1, v2, v3, v4, v5, v6, v7, v8, v9, v10, v11, v12, v13, v14, v15, v16] := by
  match vs, h with
  | [v0, v1, v2, v3, v4, v5, v6, v7, v8, v9, v10, v11, v12, v13, v14, v15, v16], _ => exact ⟨v0, v1, v2, v3, v4, v5, v6, v7, v8, v9, v10, v11, v12, v13, v14, v15, v16, rfl⟩
theorem vlen18 {vs : List Value} (h : vs.length = 18) : ∃ v0 v1 v2 v3 v4 v5 v6 v7 v8 v9 v10 v11 v12 v13 v14 v15 v16 v17, vs = [v0, v1, v2, v3, v4, v5, v6, v7, v8, v9, v10, v11, v12, v13, v14, v15, v16, v17] := by
  match vs, h with
  | [v0, v1, v2, v3, v4, v5, v6, v7, v8, v9, v10, v11, v12, v13, v14, v15, v16, v17], _ => exact ⟨v0, v1, v2, v3, v4, v5, v6, v7, v8, v9, v10, v11, v12, v13, v14, v15, v16, v17, rfl⟩
theorem vlen19 {vs : List Value} (h : vs.length = 19) : ∃ v0 v1 v2 v3 v4 v5 v6 v7 v8 v9 v10 v11 v12 v13 v14 v15 v16 v17 v18, vs = [v0, v1, v2, v3, v4, v5, v6, v7, v8, v9, v10, v11, v12, v13, v14, v15, v16, v17, v18] := by
  match vs, h with
  | [v0, v1, v2, v3, v4, v5, v6, v7, v8, v9, v10, v11, v12, v13, v14, v15, v16, v17, v18], _ => exact ⟨v0, v1, v2, v3, v4, v5, v6, v7, v8, v9, v10, v11, v12, v13, v14, v15, v16, v17, v18, rfl⟩
theorem vlen20 {vs : List Value} (h : vs.length = 20) : ∃ v0 v1 v2 v3 v4 v5 v6 v7 v8 v9 v10 v11 v12 v13 v14 v15 v16 v17 v18 v19, vs = [v0, v1, v2, v3, v4, v5, v6, v7, v8, v9, v10, v11, v12, v13, v14, v15, v16, v17, v18, v19] := by
  match vs, h with
  | [v0, v1, v2, v3, v4, v5, v6, v7, v8, v9, v10, v11, v12, v13, v14, v15, v16, v17, v18, v19], _ => exact ⟨v0, v1, v2, v3, v4, v5, v6, v7, v8, v9, v10, v11, v12, v13, v14, v15, v16, v17, v18, v19, rfl⟩
theorem vlen21 {vs : List Value} (h : vs.length = 21) : ∃ v0 v1 v2 v3 v4 v5 v6 v7 v8 v9 v10 v11 v12 v13 v14 v15 v16 v17 v18 v19 v20, vs = [v0, v1, v2, v3, v4, v5, v6, v7, v8, v9, v10, v11, v12, v13, v14, v15, v16, v17, v18, v19, v20] := by
  match vs, h with
  | [v0, v1, v2, v3, v4, v5, v6, v7, v8, v9, v10, v11, v12, v13, v14, v15, v16, v17, v18, v19, v20], _ => exact ⟨v0, v1, v2, v3, v4, v5, v6, v7, v8, v9, v10, v11, v12, v13, v14, v15, v16, v17, v18, v19, v20, rfl⟩
theorem vlen22 {vs : List Value} (h : vs.length = 22) : ∃ v0 v1 v2 v3 v4 v5 v6 v7 v8 v9 v10 v11 v12 v13 v14 v15 v16 v17 v18 v19 v20 v21, vs = [v0, v1, v2, v3, v4, v5, v6, v7, v8, v9, v10, v11, v12, v13, v14, v15, v16, v17, v18, v19, v20, v21] := by
  match vs, h with
  | [v0, v1, v2, v3, v4, v5, v6, v7, v8, v9, v10, v11, v12, v13, v14, v15, v16, v17, v18, v19, v20, v21], _ => exact ⟨v0, v1, v2, v3, v4, v5, v6, v7, v8, v9, v10, v11, v12, v13, v14, v15, v16, v17, v18, v19, v20, v21, rfl⟩
end Go.Proofs.Ytmimmckhnomcdaa
/- queue.Swap. -/
namespace Go.Proofs.Ytmimmckhnomcdaa
open Go.RowKit Big

def eqD (v0 : Value) : SFact := ⟨fun v _ => v = v0, fun _ _ _ h _ => h⟩
theorem wrap_succ (n : Nat) (h2 : n ≤ 1000000000) : IntKind.i64.wrap ((n : Int) + 1) = ((n + 1 : Nat) : Int) := by
  rw [IntWalk.i64_in _ (by omega)]; omega
theorem Own.frozen {w : World} {b : Nat} {e : TypeId} {k : IntKind} {g n cap : Nat} {l : List Nat} (h : Own w b e k (.slice (some ⟨g, 0, none⟩) n cap) l) (m : Nat) : w.frozen? ⟨g, m, none⟩ = false := by
  obtain ⟨c, hc⟩ := row_tag h g rfl
  exact frozen_of_row w g m _ _ hc
theorem Own.cellL {w : World} {b : Nat} {e : TypeId} {k : IntKind} {g n cap : Nat} {l : List Nat} (h : Own w b e k (.slice (some ⟨g, 0, none⟩) n cap) l) (i : Nat) (hi : i < l.length) : w.cell? ⟨g, i, none⟩ = some (.int k (at0 l i : Nat)) := by
  obtain ⟨g', c', e1, -, -, -, m, -⟩ := h.cells0 (by omega)
  obtain rfl : g = g' := by injection e1 with e1; injection e1 with e1; injection e1
  exact m i hi
def RSwap (S : Nat → Prop) (r : Nat) (vw vq vp : Value) (ws q : List Nat) (ab : Nat) (w : World) (e : Ending) (w' : World) : Prop :=
  e = .returned (.tuple #[]) ∧ ∃ pl, RkM w' S r vw vq vp ws q pl ab ∧ RkOk ws.length q pl ∧ Apart S w w'
set_option maxRecDepth 100000 in
set_option maxHeartbeats 6400000 in
theorem Swap_any {w : World} {S : Nat → Prop} {r : Nat} {vw vq vp : Value} {ws q pl : List Nat} {ab : Nat} (H : RkM w S r vw vq vp ws q pl ab) (ii jj : Nat) (hi : ii < q.length) (hj : jj < q.length)
    (ho : RkOk ws.length q pl) (hn : ws.length ≤ 1000000) :
    Calls Try.prog 54 #[.agg #[.pointer (some ⟨r, 0, none⟩)], .int .i64 (ii : Nat), .int .i64 (jj : Nat)] w (RSwap S r vw vq vp ws (swapL q ii jj) ab w) := by
  have hvi := ho.here ii hi
  have hvj := ho.here jj hj
  have hfew := ho.few
  have hlp := ho.len
  have Hsw := hid (ho.swap hi hj)
  have b1 := below1 w (.cells #[.pointer (some ⟨r, 0, none⟩)] 52)
  have bx := heap_alloc_new w (.cells #[.pointer (some ⟨r, 0, none⟩)] 52)
  have HH := H.below b1
  obtain ⟨gq, kq, rfl, hq1, hq2, -, mq, -⟩ := HH.waiting.cells0 (by omega)
  obtain ⟨gp, kp, rfl, hp1, hp2, -, -, -⟩ := HH.places.cells0 (by omega)
  have m1 := mq ii hi
  have m2 := mq jj hj
  clear mq
  have hcell := H.cell
  obtain ⟨⟨c0, c1, c2, c3⟩, -⟩ := HH.four
  have hv1 := hvi.1; have hv2 := hvi.2.1; have hu1 := hvj.1; have hu2 := hvj.2.1
  obtain ⟨v, hv⟩ : ∃ v, v = at0 q ii := ⟨_, rfl⟩
  obtain ⟨u, hu⟩ : ∃ u, u = at0 q jj := ⟨_, rfl⟩
  obtain ⟨L, hL⟩ : ∃ L, L = q.length := ⟨_, rfl⟩
  obtain ⟨P, hP⟩ : ∃ P, P = pl.length := ⟨_, rfl⟩
  rw [← hv] at m1 hv1 hv2
  rw [← hu] at m2 hu1 hu2
  have Hq : Hid (q.length = L) := hid hL.symm
  have Hp : Hid (pl.length = P) := hid hP.symm
  have hLi : ii < L := by omega
  have hLj : jj < L := by omega
  have hPv : v - 1 < P := by omega
  have hPu : u - 1 < P := by omega
  have hL9 : L ≤ 1000000 := by omega
  rw [← hL] at HH c1 hq1 ⊢
  rw [← hP] at HH c2 hp1 ⊢
  have HH := hid HH
  have Hv := hid hv; have Hu := hid hu
  have hwv := hid (wrap_pred v (by omega) (by omega))
  have hwu := hid (wrap_pred u (by omega) (by omega))
  have hwi := hid (wrap_succ ii (by omega))
  have hwj := hid (wrap_succ jj (by omega))
  clear hvi hvj ho hlp hfew hi hj hn hL hP hcell H hv hu
  have b1 := hid b1
  go_enter Try.func54, Try.ntmps54
  go_wp2_with fail
  go_quiet (fail)
  go_upto_region 2 with fail
  clear c0 c1 c2 c3 m1 m2
  have H2 : RkM _ S r vw _ _ ws q pl ab := HH.out.below (below_drewN (Below.refl _ _) nq)
  have B2 := below_drewN b1.out nq
  have bx2 : ((w.alloc (.cells #[.pointer (some ⟨r, 0, none⟩)] 52)).drewN nq).heap[w.heap.size]? = _ := bx
  generalize hW : ((w.alloc (.cells #[.pointer (some ⟨r, 0, none⟩)] 52)).drewN nq) = W2 at *
  clear hW HH b1 bx
  obtain ⟨⟨-, y1, -, -⟩, -⟩ := H2.four
  have y0 : W2.cell? ⟨w.heap.size, 0, none⟩ = some (.pointer (some ⟨r, 0, none⟩)) := by simp [World.cell?, bx2]
  have hgr : gq ≠ r := row_ne H2.waiting H2.cell (by decide) gq rfl
  have hgb : gq ≠ w.heap.size := row_ne H2.waiting bx2 (by decide) gq rfl
  have hrg := Ne.symm hgr; have hbg := Ne.symm hgb
  have z1 := H2.waiting.cellL ii (by rw [Hq.out]; exact hLi)
  have z2 := H2.waiting.cellL jj (by rw [Hq.out]; exact hLj)
  rw [← Hv.out] at z1; rw [← Hu.out] at z2
  have k1 := H2.waiting.frozen ii
  have k2 := H2.waiting.frozen jj
  have k3 := (H2.setQ ii u (by rw [Hq.out]; exact hLi)).waiting.frozen jj
  have z3 := Own.cellL (H2.setQ ii u (by rw [Hq.out]; exact hLi)).waiting jj (by rw [List.length_set, Hq.out]; exact hLj)
  generalize at0 (q.set ii u) jj = zz at z3
  have hsp : Hid ((pl.set (u - 1) (ii + 1)).set (v - 1) (jj + 1) = (pl.set (at0 q jj - 1) (ii + 1)).set (at0 q ii - 1) (jj + 1)) := by rw [Hu.out, Hv.out]; rfl
  have H5 := (H2.setQ ii u (by rw [Hq.out]; exact hLi)).setQ jj v (by rw [List.length_set, Hq.out]; exact hLj)
  have A5 : Apart S w ((W2.setCell ⟨gq, ii, none⟩ (.int .i64 (u : Nat))).setCell ⟨gq, jj, none⟩ (.int .i64 (v : Nat))) := (((Apart.of_below B2).setCell (p := ⟨gq, ii, none⟩) (H2.waitingIn gq rfl) (.int .i64 (u : Nat))).setCell (p := ⟨gq, jj, none⟩) (H2.waitingIn gq rfl) (.int .i64 (v : Nat)))
  have bx5 : ((W2.setCell ⟨gq, ii, none⟩ (.int .i64 (u : Nat))).setCell ⟨gq, jj, none⟩ (.int .i64 (v : Nat))).heap[w.heap.size]? = _ := ((Below.heap_setCell (W2.setCell ⟨gq, ii, none⟩ (.int .i64 (u : Nat))) ⟨gq, jj, none⟩ (.int .i64 (v : Nat)) w.heap.size hbg).trans (Below.heap_setCell W2 ⟨gq, ii, none⟩ (.int .i64 (u : Nat)) w.heap.size hbg)).trans bx2
  have H5 := hid H5; have A5 := hid A5; have bx5 := hid bx5
  clear H2 B2 bx2
  go_region
  go_upto_region 3 with fail
  have hsq : (q.set ii u).set jj v = swapL q ii jj := by rw [Hu.out, Hv.out]; rfl
  have H6 := H5.out.below (below_drewN (Below.refl _ _) 1)
  have H6 : RkM ((W2.setCell ⟨gq, ii, none⟩ (.int .i64 (u : Nat))).setCell ⟨gq, jj, none⟩ (.int .i64 (v : Nat))).drew S r vw (.slice (some ⟨gq, 0, none⟩) L kq) (.slice (some ⟨gp, 0, none⟩) P kp) ws (swapL q ii jj) pl ab := hsq ▸ H6
  have A6 : Apart S w ((W2.setCell ⟨gq, ii, none⟩ (.int .i64 (u : Nat))).setCell ⟨gq, jj, none⟩ (.int .i64 (v : Nat))).drew := A5.out.drew
  have bx6 : ((W2.setCell ⟨gq, ii, none⟩ (.int .i64 (u : Nat))).setCell ⟨gq, jj, none⟩ (.int .i64 (v : Nat))).drew.heap[w.heap.size]? = _ := bx5.out
  clear y0 y1 z1 z2 z3 k1 k2 k3 H5 A5 bx5 hsq
  generalize hW6 : ((W2.setCell ⟨gq, ii, none⟩ (.int .i64 (u : Nat))).setCell ⟨gq, jj, none⟩ (.int .i64 (v : Nat))).drew = W6 at *
  clear hW6
  obtain ⟨⟨-, -, y2, -⟩, -⟩ := H6.four
  have y0 : W6.cell? ⟨w.heap.size, 0, none⟩ = some (.pointer (some ⟨r, 0, none⟩)) := by simp [World.cell?, bx6]
  have hpr : gp ≠ r := row_ne H6.places H6.cell (by decide) gp rfl
  have hpb : gp ≠ w.heap.size := row_ne H6.places bx6 (by decide) gp rfl
  have hrp := Ne.symm hpr; have hbp := Ne.symm hpb
  have z1 := H6.places.cellL (u - 1) (by rw [Hp.out]; exact hPu)
  have z2 := H6.places.cellL (v - 1) (by rw [Hp.out]; exact hPv)
  have k1 := H6.places.frozen (u - 1)
  have k2 := H6.places.frozen (v - 1)
  have k3 := (H6.setP (u - 1) (ii + 1) (by rw [Hp.out]; exact hPu)).places.frozen (v - 1)
  have z3 := Own.cellL (H6.setP (u - 1) (ii + 1) (by rw [Hp.out]; exact hPu)).places (v - 1) (by rw [List.length_set, Hp.out]; exact hPv)
  generalize at0 (pl.set (u - 1) (ii + 1)) (v - 1) = zz at z3
  generalize at0 pl (u - 1) = za at z1
  generalize at0 pl (v - 1) = zb at z2
  have H9 := ((H6.setP (u - 1) (ii + 1) (by rw [Hp.out]; exact hPu)).setP (v - 1) (jj + 1) (by rw [List.length_set, Hp.out]; exact hPv))
  have A9 : (Apart S w ((W6.setCell ⟨gp, u - 1, none⟩ (.int .i64 (ii + 1 : Nat))).setCell ⟨gp, v - 1, none⟩ (.int .i64 (jj + 1 : Nat)))) := ((A6.setCell (p := ⟨gp, u - 1, none⟩) (H6.placesIn gp rfl) _).setCell (p := ⟨gp, v - 1, none⟩) (H6.placesIn gp rfl) _)
  have hci : ((ii + 1 : Nat) : Int) = (ii : Int) + 1 := by omega
  have hcj : ((jj + 1 : Nat) : Int) = (jj : Int) + 1 := by omega
  rw [hci] at k3 z3 H9 A9
  rw [hcj] at H9 A9
  have H9 := hid H9; have A9 := hid A9
  clear hci hcj
  have e1 := hwu.out; have e2 := hwv.out; have e3 := hwi.out; have e4 := hwj.out
  clear H6 A6 bx6 hgr hgb hrg hbg
  go_region
  go_wp2
  go_end0
  refine ⟨rfl, _, ?_, Hsw.out, A9.out.drew⟩
  have h := H9.out.below (below_drewN (Below.refl _ _) 1)
  exact hsp.out ▸ h
end Go.Proofs.Ytmimmckhnomcdaa
/- A region that draws its order, with one operation (an append to a row that was there) that writes into blocks of S: each operation is shown once to give its own fact, which lasts. -/
namespace Go.Proofs.Ytmimmckhnomcdaa
open Go.RowKit

/-- a fact of a slot's value that lasts while memory outside S stays -/
structure WFact (S : Nat → Prop) where
  P : Value → World → Prop
  st : ∀ v w w', P v w → Apart S w w' → P v w'
def wEq {S : Nat → Prop} (v0 : Value) : WFact S := ⟨fun v _ => v = v0, fun _ _ _ h _ => h⟩
def wAny {S : Nat → Prop} : WFact S := ⟨fun _ _ => True, fun _ _ _ h _ => h⟩
theorem wpAny_write {P : Program} {ops : Array Oper} {Q : Exit → Act → World → Prop} {a0 : Act} {w0 : World} (n s : Nat) (hsize : ops.size = n + s) (ds : List Tmp) {S : Nat → Prop} (f : Nat → WFact S) (a : Nat) (J : Value → World → Prop) (hJ : ∀ v w w', J v w → Below w.heap.size w w' → J v w')
    (hd : edgesDown .any ops = true) (hsw : storesWait .any ops n = true) (hdn : ds.Nodup) (hlen : ds.length = n) (hds : dstsAre ops n ds = true) (han : a < n)
    (hstep : ∀ i o, i < n → ops[i]? = some o → ∀ vs w, vs.length = n → Apart S w0 w → (i = a ∨ reach .any ops 8 a i = true → Below w0.heap.size w0 w) → (∀ e ∈ o.after, Region.binds .any e = true → (f e.on).P (vs.getD e.on undef) w) →
      ∀ K : Act → World → Prop, Shut (∀ v w', (f i).P v w' → (i ≠ a → Below w.heap.size w w') → (i = a → Apart S w w' ∧ J v w') → K ((putAll a0 ds vs).put o.dst v) w') →
        if Region.wanted o (yielded ops (putAll a0 ds vs).tmps) = true then Oper.wp P o (putAll a0 ds vs) w K Q else K ((putAll a0 ds vs).put o.dst undef) w)
    (hend : ∀ vs w, vs.length = n → Apart S w0 w → (∀ i, i < n → (f i).P (vs.getD i undef) w) → J (vs.getD a undef) w →
      wpAny P .any ops Q s ((List.replicate n true ++ List.replicate s false).toArray) (putAll a0 ds vs) w) :
    ∀ (c : Nat) (L : Array Bool) (vs : List Value) (w : World), (L.toList.take n).count false = c → L.size = n + s → (∀ j, n ≤ j → j < n + s → L.getD j true = false) → Closed .any ops L → vs.length = n → Apart S w0 w →
      (∀ i, i < n → L.getD i false = true → (f i).P (vs.getD i undef) w) → (L.getD a false = false → Below w0.heap.size w0 w) → (L.getD a false = true → J (vs.getD a undef) w) → wpAny P .any ops Q (c + s) L (putAll a0 ds vs) w := by
  intro c
  induction c with
  | zero =>
    intro L vs w hc hs hst hcl hvl hb hf hj0 hj1
    have hall : ∀ i, i < n → L.getD i false = true := fun i hi => by
      have hil : i < L.size := by omega
      cases hb : L[i] with
      | true => simp [Array.getD, hil, hb]
      | false =>
        exfalso
        have hmem : false ∈ L.toList.take n := by
          rw [List.mem_take_iff_getElem]
          exact ⟨i, by simp; omega, by simpa using hb⟩
        have := List.count_pos_iff.2 hmem
        omega
    have hL : L = (List.replicate n true ++ List.replicate s false).toArray := by
      apply Array.ext
      · simp [hs]
      · intro i hi hi2
        by_cases h : i < n
        · have := hall i h
          simp only [Array.getD, hi] at this
          simp [h]
          simpa using this
        · have := hst i (by omega) (by omega)
          simp only [Array.getD, hi] at this
          simp [List.getElem_append, h]
          simpa using this
    rw [Nat.zero_add, hL]
    exact hend vs w hvl hb (fun i hi => hf i hi (hall i hi)) (hj1 (hall a han))
  | succ c ih =>
    intro L vs w hc hs hst hcl hvl hb hf hj0 hj1
    have hnot : ¬ ∀ i, i < n → L.getD i false = true := fun hall => by
      have : (L.toList.take n).count false = 0 := by
        rw [List.count_eq_zero]
        intro hmem
        rw [List.mem_take_iff_getElem] at hmem
        obtain ⟨i, hi, hif⟩ := hmem
        have hi' : i < L.size := by simp at hi; omega
        have := hall i (by simp at hi; omega)
        have h2 : L.getD i false = L[i] := by simp [Array.getD, hi']
        rw [h2] at this
        rw [Array.getElem_toList] at hif
        rw [hif] at this
        cases this
      omega
    rw [show c + 1 + s = (c + s) + 1 by omega]
    refine ⟨fun hr => ?_, fun i hi => ?_⟩
    · exfalso
      apply hnot
      intro i hi
      have := all_listed hd (by rw [hs, hsize]) hr i (by omega)
      have hil : i < L.size := by omega
      simpa [Array.getD, hil] using this
    · obtain ⟨hun, o, ho, hall⟩ := mem_ready.1 hi
      have hio : i < ops.size := (Array.getElem?_eq_some_iff.1 ho).1
      have hil : i < L.size := by omega
      have hin : i < n := by
        rcases Nat.lt_or_ge i n with h | h
        · exact h
        · exfalso
          apply hnot
          intro j hj
          have h1 := List.all_eq_true.1 hsw i (by simpa using hio)
          simp only [Bool.or_eq_true, decide_eq_true_eq] at h1
          rcases h1 with h1 | h1
          · omega
          · exact reach_listed hcl 6 i o j ho hall (List.all_eq_true.1 h1 j (by simpa using hj))
      have hdst : o.dst = ds[i]? := by
        have h1 := List.all_eq_true.1 hds i (by simpa using hin)
        rw [ho] at h1
        simpa using h1
      have hdi : ds[i]? = some (ds[i]'(by omega)) := by simp
      have hia : i = a ∨ reach .any ops 8 a i = true → L.getD a false = false := fun h => by
        rcases h with rfl | h
        · simpa [Array.getD, hil] using hun
        · cases hla : L.getD a false with
          | false => rfl
          | true =>
            exfalso
            have hoa : ops[a]? = some (ops[a]'(by omega)) := by simp
            have := reach_listed hcl 8 a _ i hoa (fun e he hb => hcl a _ hoa hla e he hb) h
            have h2 : L.getD i false = L[i] := by simp [Array.getD, hil]
            rw [h2] at this
            have h3 : L.getD i true = L[i] := by simp [Array.getD, hil]
            rw [h3, this] at hun
            cases hun
      refine wpOp_step ho (fun K hK => hstep i o hin ho vs w hvl hb (fun h => hj0 (hia h)) (fun e he hbd => ?_) K (fun v w' hv hb' hp => ?_))
      · have hl := hall e he hbd
        have hlt : e.on < n := by
          rcases Nat.lt_or_ge e.on n with h | h
          · exact h
          · exfalso
            rcases Nat.lt_or_ge e.on (n + s) with h2 | h2
            · have := hst e.on h h2
              have hl2 : e.on < L.size := by omega
              simp only [Array.getD, hl2] at this hl
              simp at this hl
              rw [this] at hl; cases hl
            · have : ¬ e.on < L.size := by omega
              simp [Array.getD, this] at hl
        exact hf e.on hlt hl
      · apply hK
        rw [hdst, hdi, putAll_set hdn hdi (by omega)]
        have hset : ∀ j, i ≠ j → (L.setIfInBounds i true).getD j false = L.getD j false := fun j h => getD_set_ne false h
        have hap : Apart S w w' := by
          by_cases e : i = a
          · exact (hp e).1
          · exact Apart.of_below (hb' e)
        refine ih (L.setIfInBounds i true) (vs.set i v) w' ?_ (by simpa using hs) ?_ ?_ (by simpa using hvl) (hb.go hap) ?_ ?_ ?_
        · have hf' : (L.toList.take n)[i]'(by simp; omega) = false := by
            simp only [List.getElem_take]
            simpa [Array.getD, hil] using hun
          have := count_false_set (L.toList.take n) i (by simp; omega) hf'
          rw [Array.toList_setIfInBounds, ← List.take_set] at *
          omega
        · intro j hj hj2
          rw [getD_set_ne true (by omega)]
          exact hst j hj hj2
        · intro j o' hjo hjl e he hbd
          by_cases hji : i = j
          · subst hji
            rw [ho] at hjo
            cases hjo
            exact getD_set_true (hall e he hbd)
          · rw [hset j hji] at hjl
            exact getD_set_true (hcl j o' hjo hjl e he hbd)
        · intro j hj hjl
          by_cases hji : i = j
          · subst hji
            rw [getD_set_list_self (by omega)]
            exact hv
          · rw [hset j hji] at hjl
            rw [getD_set_list hji]
            exact (f j).st _ _ _ (hf j hj hjl) hap
        · intro hla
          by_cases hji : i = a
          · subst hji
            exfalso
            have h2 : i < (L.setIfInBounds i true).size := by simpa using hil
            simp [Array.getD, hil] at hla
          · rw [hset a hji] at hla
            have := hb' hji
            exact (hj0 hla).trans (this.mono (hj0 hla).size)
        · intro hla
          by_cases hji : i = a
          · subst hji
            rw [getD_set_list_self (by omega)]
            exact (hp rfl).2
          · rw [hset a hji] at hla
            rw [getD_set_list hji]
            exact hJ _ _ _ (hj1 hla) (hb' hji)

theorem wp_region_write {P : Program} {ops : Array Oper} {Q : Exit → Act → World → Prop} {id : Nat} {a0 : Act} {w0 : World} (n s : Nat) (ds : List Tmp) (vs0 : List Value) {S : Nat → Prop} (f : Nat → WFact S) (a : Nat) (J : Value → World → Prop) (hJ : ∀ v w w', J v w → Below w.heap.size w w' → J v w') (hm : P.follows .mixedOrders = true)
    (hsize : ops.size = n + s) (hd : edgesDown .any ops = true) (hsw : storesWait .any ops n = true) (hdn : ds.Nodup) (hlen : ds.length = n) (hds : dstsAre ops n ds = true) (hv0 : vs0.length = n) (han : a < n)
    (he : a0 = putAll a0 ds vs0)
    (hstep : ∀ i o, i < n → ops[i]? = some o → ∀ vs w, vs.length = n → Apart S w0 w → (i = a ∨ reach .any ops 8 a i = true → Below w0.heap.size w0 w) → (∀ e ∈ o.after, Region.binds .any e = true → (f e.on).P (vs.getD e.on undef) w) →
      ∀ K : Act → World → Prop, Shut (∀ v w', (f i).P v w' → (i ≠ a → Below w.heap.size w w') → (i = a → Apart S w w' ∧ J v w') → K ((putAll a0 ds vs).put o.dst v) w') →
        if Region.wanted o (yielded ops (putAll a0 ds vs).tmps) = true then Oper.wp P o (putAll a0 ds vs) w K Q else K ((putAll a0 ds vs).put o.dst undef) w)
    (hend : ∀ vs w, vs.length = n → Apart S w0 w → (∀ i, i < n → (f i).P (vs.getD i undef) w) → J (vs.getD a undef) w →
      wpAny P .any ops Q s ((List.replicate n true ++ List.replicate s false).toArray) (putAll a0 ds vs) w) : (Code.region id ops true).wp P Q a0 w0 := by
  refine wp_region_any hm ?_
  have := wpAny_write (a0 := a0) (w0 := w0) n s hsize ds f a J hJ hd hsw hdn hlen hds han hstep hend n (Array.replicate ops.size false) vs0 w0.drew
    (by rw [hsize]; simp [List.take_replicate, Nat.min_eq_left (Nat.le_add_right n s)]) (by simp [hsize]) (by intro j hj hj2; simp [Array.getD, hsize, hj2]) (by intro j o _ h; simp [Array.getD] at h) hv0 ((Apart.refl _ _).drew)
    (by intro i _ h; simp [Array.getD] at h) (fun _ => (Below.refl _ _).drew) (by intro h; simp [Array.getD] at h)
  rw [← he, ← hsize] at this
  exact this

end Go.Proofs.Ytmimmckhnomcdaa
/- Rows that an append answers, in a region that draws its order. -/
namespace Go.Proofs.Ytmimmckhnomcdaa
open Go.RowKit Big

def wRow {S : Nat → Prop} (c : List Value) (t : TypeId) : WFact S := ⟨fun v w => ∃ gg, v = .slice (some ⟨gg, 0, none⟩) 1 1 ∧ w.heap[gg]? = some (.cells c.toArray t (0, 0)) ∧ ¬ S gg,
  fun _ _ _ ⟨gg, h1, h2, h3⟩ hb => ⟨gg, h1, (hb.block gg (lt_of_block h2) h3).trans h2, h3⟩⟩
theorem cells_at {w : World} {g : Nat} {t : TypeId} {c : List Value} (h : w.heap[g]? = some (.cells c.toArray t (0, 0))) : ∀ j u, c[j]? = some u → w.cell? ((⟨g, 0, none⟩ : Addr).add j) = some u := by
  intro j u hj
  rw [Go.WideShapes.add_plain, cell_of_row w g _ _ t (0, 0) h, Nat.zero_add]
  simpa using hj
/-- a row that an append has answered: in the block of the row that was there, or in a new one -/
def RowJ (e : TypeId) (size n : Nat) (xs : List Value) (vo : Value) (N : Nat) (v : Value) (w : World) : Prop := w.ownsRow 0 e size v n xs ∧ (v.ownBlock = vo.ownBlock ∨ ∀ k, v.ownBlock = some k → N ≤ k)
theorem RowJ.below {e : TypeId} {size n N : Nat} {xs : List Value} {vo v : Value} {w w' : World} (h : RowJ e size n xs vo N v w) (hb : Below w.heap.size w w') : RowJ e size n xs vo N v w' :=
  ⟨row_stays h.1 fun k hk => hb.block k (World.ownsRow.lt h.1 k hk).2, h.2⟩
def Wide (S : Nat → Prop) (n : Nat) (k : Nat) : Prop := S k ∨ n ≤ k
theorem infoI : (Try.prog.info? 3).map (fun i => (i.zero, i.size, i.bytes)) = some (some (.int .i64 0), 1, 8) := by kernel_rfl
theorem infoU : (Try.prog.info? 34).map (fun i => (i.zero, i.size, i.bytes)) = some (some (.int .u64 0), 1, 8) := by kernel_rfl
theorem ints_snoc (k : IntKind) (l : List Nat) (x : Nat) : ints k l ++ [.int k (x : Nat)] = ints k (l ++ [x]) := by simp [ints]
theorem RkM.rowU {w : World} {S : Nat → Prop} {r : Nat} {vw vq vp : Value} {ws q pl : List Nat} {ab : Nat} (H : RkM w S r vw vq vp ws q pl ab) : ∃ p c, vq = .slice p q.length c := ownsRow_shape H.waiting
end Go.Proofs.Ytmimmckhnomcdaa
/- queue.Push. -/
namespace Go.Proofs.Ytmimmckhnomcdaa
open Go.RowKit Big

theorem assertInt (v : Int) (w : World) : (Instr.typeAssert (.iface 3 (.int .i64 v)) 20 3 true).run Try.prog w = .ok (.tuple #[.int .i64 v, .bool true]) w := by kernel_rfl
def RPush (S : Nat → Prop) (r : Nat) (vw vp : Value) (ws q : List Nat) (ab : Nat) (w : World) (e : Ending) (w' : World) : Prop :=
  e = .returned (.tuple #[]) ∧ ∃ S' vq pl, RkM w' S' r vw vq vp ws q pl ab ∧ RkOk ws.length q pl ∧ (∀ k, S' k → (S k ∨ w.heap.size ≤ k) ∧ k < w'.heap.size) ∧ Apart S w w'
set_option maxRecDepth 100000 in
set_option maxHeartbeats 6400000 in
theorem Push_any {w : World} {S : Nat → Prop} {r : Nat} {vw vq vp : Value} {ws q pl : List Nat} {ab : Nat} (H : RkM w S r vw vq vp ws q pl ab) (v : Nat) (hv1 : 1 ≤ v) (hv2 : v ≤ ws.length) (hz : at0 pl (v - 1) = 0)
    (ho : RkOk ws.length q pl) (hn : ws.length ≤ 1000000) :
    Calls Try.prog 53 #[.agg #[.pointer (some ⟨r, 0, none⟩)], .iface 3 (.int .i64 (v : Nat))] w (RPush S r vw vp ws (q ++ [v]) ab w) := by
  have hfew := ho.few
  have hlp := ho.len
  have Hpu := hid (ho.push hv1 hv2 hz)
  have b1 := below1 w (.cells #[.pointer (some ⟨r, 0, none⟩)] 52)
  have bx := heap_alloc_new w (.cells #[.pointer (some ⟨r, 0, none⟩)] 52)
  have HH := H.below b1
  obtain ⟨pq, kq, rfl⟩ := H.rowU
  obtain ⟨L, hL⟩ : ∃ L, L = q.length := ⟨_, rfl⟩
  have Hq : Hid (q.length = L) := hid hL.symm
  have hL9 : L ≤ 1000000 := by omega
  have hvp : v - 1 < pl.length := by omega
  have HS0 := hid H.lt
  have hwv := hid (wrap_pred v (by omega) (by omega))
  rw [← hL] at HH
  clear hfew hlp hL H ho hz hv2
  go_enter Try.func53, Try.ntmps53
  have ha := fun w' => assertInt (v : Nat) w'
  go_upto_region 3 with fail
  clear ha
  generalize hW : (w.alloc (.cells #[.pointer (some ⟨r, 0, none⟩)] 52)) = W3 at *
  clear hW
  have hz3 := b1.size
  have hzb := lt_of_block bx
  have Hvlt : Hid (∀ k, (Value.slice pq L kq).ownBlock = some k → k < W3.heap.size) := hid fun k hk => (World.ownsRow.lt HH.waiting k hk).2
  have Hrow : Hid (W3.ownsRow 0 3 1 (Value.slice pq L kq) L (ints .i64 q)) := hid (Hq.out ▸ HH.waiting)
  have HS : Hid (∀ w', Apart (fun k => (Value.slice pq L kq).ownBlock = some k) W3 w' → (w'.cell? ⟨r, 0, none⟩ = some vw ∧ w'.cell? ⟨r, 1, none⟩ = some (Value.slice pq L kq) ∧ w'.cell? ⟨r, 2, none⟩ = some vp ∧ w'.cell? ⟨r, 3, none⟩ = some (.int .u64 (ab : Nat))) ∧
      ((∀ j, w'.frozen? ⟨r, j, none⟩ = false) ∧ True) ∧ (w'.cell? ⟨w.heap.size, 0, none⟩ = some (.pointer (some ⟨r, 0, none⟩)) ∧ True)) := hid fun w' ha => by
    have hr := (ha.block r HH.lt fun e => row_ne HH.waiting HH.cell (by decide) r e rfl).trans HH.cell
    have hb := (ha.block w.heap.size hzb fun e => row_ne HH.waiting bx (by decide) _ e rfl).trans bx
    exact ⟨by simp [World.cell?, hr], ⟨fun j => frozen_of_row w' r j _ _ hr, trivial⟩, by simp [World.cell?, hb], trivial⟩
  have HH := hid HH; have b1 := hid b1; have bx := hid bx
  obtain ⟨i0, hi0, hz0, hz1, hz2⟩ := info_parts infoI
  refine wp_region_write (w0 := W3) 12 1 [12, 13, 14, 15, 16, 17, 18, 19, 20, 21, 22, 23] [undef, undef, undef, undef, undef, undef, undef, undef, undef, undef, undef, undef] (S := (fun k => (Value.slice pq L kq).ownBlock = some k))
    (fun i => match i with | 0 => wEq (.pointer (some ⟨w.heap.size, 0, none⟩)) | 1 => wEq (.pointer (some ⟨r, 0, none⟩)) | 2 => wEq (.pointer (some ⟨w.heap.size, 0, none⟩)) | 3 => wEq (.pointer (some ⟨r, 0, none⟩)) | 4 => wEq (.pointer (some ⟨r, 0, none⟩)) | 5 => wEq (.pointer (some ⟨r, 1, none⟩)) | 6 => wEq (Value.slice pq L kq) | 7 => wEq (.int .i64 (v : Nat)) | 8 => wRow [.int .i64 (v : Nat)] 3 | 9 => wAny | 10 => wEq (.pointer (some ⟨r, 0, none⟩)) | _ => wEq (.pointer (some ⟨r, 1, none⟩))) 9 (RowJ 3 1 (L + 1) ((ints .i64 q) ++ [.int .i64 (v : Nat)]) (Value.slice pq L kq) W3.heap.size) (fun _ _ _ h hb => h.below hb) (by kernel_rfl) (by kernel_rfl) (by kernel_rfl) (by kernel_rfl) (by decide) rfl (by kernel_rfl) rfl (by decide) ?he1 ?_ ?_
  case he1 => simp only [putAll, Act.put, List.setIfInBounds_toArray, List.set_cons_zero, List.set_cons_succ]
  · intro i o hi ho vs wx hvl hb hB hdep K hK
    have hvs := vlen12 hvl
    obtain ⟨s12, s13, s14, s15, s16, s17, s18, s19, s20, s21, s22, s23, rfl⟩ := hvs
    clear hvl
    have hk := HS.out wx hb
    obtain ⟨⟨q0, q1, q2, q3⟩, -, hbox⟩ := hk
    go_split_ands
    rcases i with _ | _ | _ | _ | _ | _ | _ | _ | _ | _ | _ | _ | i
    all_goals (simp only [List.getElem?_toArray, List.getElem?_cons_zero, List.getElem?_cons_succ, Option.some.injEq] at ho)
    all_goals try (subst ho)
    all_goals try simp only [putAll, Act.put, List.setIfInBounds_toArray, List.set_cons_zero, List.set_cons_succ]
    · go_simp
      have hK' := hK.out
      simp only [putAll, Act.put, List.setIfInBounds_toArray, List.set_cons_zero, List.set_cons_succ] at hK'
      exact hK' _ _ rfl (fun _ => Below.refl _ _) (fun h => absurd h (by decide))
    · have e0 : s12 = _ := hdep ⟨0, .data⟩ (by simp) rfl
      have e0 := e0.symm
      subst e0
      go_simp
      have hK' := hK.out
      simp only [putAll, Act.put, List.setIfInBounds_toArray, List.set_cons_zero, List.set_cons_succ] at hK'
      exact hK' _ _ rfl (fun _ => Below.refl _ _) (fun h => absurd h (by decide))
    · go_simp
      have hK' := hK.out
      simp only [putAll, Act.put, List.setIfInBounds_toArray, List.set_cons_zero, List.set_cons_succ] at hK'
      exact hK' _ _ rfl (fun _ => Below.refl _ _) (fun h => absurd h (by decide))
    · have e2 : s14 = _ := hdep ⟨2, .data⟩ (by simp) rfl
      have e2 := e2.symm
      subst e2
      go_simp
      have hK' := hK.out
      simp only [putAll, Act.put, List.setIfInBounds_toArray, List.set_cons_zero, List.set_cons_succ] at hK'
      exact hK' _ _ rfl (fun _ => Below.refl _ _) (fun h => absurd h (by decide))
    · have e3 : s15 = _ := hdep ⟨3, .data⟩ (by simp) rfl
      have e3 := e3.symm
      subst e3
      go_simp
      have hK' := hK.out
      simp only [putAll, Act.put, List.setIfInBounds_toArray, List.set_cons_zero, List.set_cons_succ] at hK'
      exact hK' _ _ rfl (fun _ => Below.refl _ _) (fun h => absurd h (by decide))
    · have e4 : s16 = _ := hdep ⟨4, .data⟩ (by simp) rfl
      have e4 := e4.symm
      subst e4
      go_simp
      have hK' := hK.out
      simp only [putAll, Act.put, List.setIfInBounds_toArray, List.set_cons_zero, List.set_cons_succ] at hK'
      exact hK' _ _ rfl (fun _ => Below.refl _ _) (fun h => absurd h (by decide))
    · have e5 : s17 = _ := hdep ⟨5, .data⟩ (by simp) rfl
      have e5 := e5.symm
      subst e5
      go_simp
      have hK' := hK.out
      simp only [putAll, Act.put, List.setIfInBounds_toArray, List.set_cons_zero, List.set_cons_succ] at hK'
      exact hK' _ _ rfl (fun _ => Below.refl _ _) (fun h => absurd h (by decide))
    · go_simp
      have hK' := hK.out
      simp only [putAll, Act.put, List.setIfInBounds_toArray, List.set_cons_zero, List.set_cons_succ] at hK'
      exact hK' _ _ rfl (fun _ => Below.refl _ _) (fun h => absurd h (by decide))
    · have e7 : s19 = _ := hdep ⟨7, .data⟩ (by simp) rfl
      have e7 := e7.symm
      subst e7
      go_simp
      have hK' := hK.out
      simp only [putAll, Act.put, List.setIfInBounds_toArray, List.set_cons_zero, List.set_cons_succ] at hK'
      exact hK' _ _ ⟨_, rfl, heap_alloc_new _ _, fun e => by have := Hvlt.out _ e; have := hb.size; omega⟩ (fun _ => below1 _ _) (fun h => absurd h (by decide))
    · have e6 : s18 = _ := hdep ⟨6, .data⟩ (by simp) rfl
      have e6 := e6.symm
      subst e6
      have e8 : (wRow [.int .i64 (v : Nat)] 3).P s20 wx := hdep ⟨8, .data⟩ (by simp) rfl
      have hbB := hB (Or.inl rfl)
      obtain ⟨gg, e8, hg8, -⟩ := e8
      subst e8
      have hrow : wx.ownsRow 0 3 1 (Value.slice pq L kq) L (ints .i64 q) := row_stays Hrow.out fun k hk => hbB.block k (Hvlt.out k hk)
      have hK' := hK.out
      simp only [putAll, Act.put, List.setIfInBounds_toArray, List.set_cons_zero, List.set_cons_succ] at hK'
      rw [if_pos (by rfl)]
      refine step_append (.tmp 18) (.tmp 20) 38 ?ho 0 3 i0 (.int .i64 0) 1 8 Try.underlying38 hi0 hz0 hz1 hz2 rfl (by decide) (Value.slice pq L kq) L (ints .i64 q) ?hs hrow ⟨gg, 0, none⟩ 1 1 [.int .i64 (v : Nat)] ?hx rfl ?c1 ?c2 ?c3 ?c4 (Nat.zero_le _) ?_
      case ho => rfl
      case hs => rfl
      case hx => rfl
      case c1 => exact cells_at hg8
      case c2 => intro u hu; simp at hu; (subst hu; rfl)
      case c3 => simp [maxLen]; omega
      case c4 => omega
      intro v' w' hown' hgrow hat
      refine hK' _ _ trivial (fun h => absurd rfl h) (fun _ => ⟨(Apart.refl _ _).grown hgrow (fun k e => e), hown', ?_⟩)
      rcases hat with hat | hat
      · exact .inl hat
      · exact .inr fun k hk => by rw [hat] at hk; cases hk; exact hbB.size
    · have e1 : s13 = _ := hdep ⟨1, .data⟩ (by simp) rfl
      have e1 := e1.symm
      subst e1
      go_simp
      have hK' := hK.out
      simp only [putAll, Act.put, List.setIfInBounds_toArray, List.set_cons_zero, List.set_cons_succ] at hK'
      exact hK' _ _ rfl (fun _ => Below.refl _ _) (fun h => absurd h (by decide))
    · have e10 : s22 = _ := hdep ⟨10, .data⟩ (by simp) rfl
      have e10 := e10.symm
      subst e10
      go_simp
      have hK' := hK.out
      simp only [putAll, Act.put, List.setIfInBounds_toArray, List.set_cons_zero, List.set_cons_succ] at hK'
      exact hK' _ _ rfl (fun _ => Below.refl _ _) (fun h => absurd h (by decide))
    · omega
  · intro vs wx hvl hb hf hJw
    have hvs := vlen12 hvl
    obtain ⟨s12, s13, s14, s15, s16, s17, s18, s19, s20, s21, s22, s23, rfl⟩ := hvs
    have fp : s23 = .pointer (some ⟨r, 1, none⟩) := hf 11 (by decide)
    subst fp
    have hJw : RowJ 3 1 (L + 1) ((ints .i64 q) ++ [.int .i64 (v : Nat)]) (Value.slice pq L kq) W3.heap.size s21 wx := hJw
    obtain ⟨hj1, hj2⟩ := hJw
    obtain ⟨pv, cv, ev⟩ := ownsRow_shape hj1
    subst ev
    clear hf hvl
    have hk := HS.out wx hb
    obtain ⟨⟨q0, q1, q2, q3⟩, ⟨fz, -⟩, -⟩ := hk
    refine wpAny_one (i := 12) (by kernel_rfl) rfl ?_
    intro K hK
    simp only [putAll, Act.put, List.setIfInBounds_toArray, List.set_cons_zero, List.set_cons_succ]
    have hK' := hK.out
    have fzz := fz 1
    go_simp
    apply hK'
    clear hK hK' q0 q1 q2 q3 fz fzz
    refine wpAny_done (by kernel_rfl) ?_ _
    try simp only [putAll, Act.put, List.setIfInBounds_toArray, List.set_cons_zero, List.set_cons_succ]
    have hrow4 : Own wx 0 3 .i64 (Value.slice pv (L + 1) cv) (q ++ [v]) := by
      unfold Own
      rw [List.length_append, Hq.out, ← ints_snoc]
      exact hj1
    have H4 : RkM (wx.setCell ⟨r, 1, none⟩ (Value.slice pv (L + 1) cv)) (Wide S w.heap.size) r vw (Value.slice pv (L + 1) cv) vp ws (q ++ [v]) pl ab :=
      (HH.out.stays (S' := Wide S w.heap.size) (fun k h => .inl h) (fun _ _ _ => rfl)).newQ hb hrow4 hj2 (fun k hk => by rcases hj2 with e | h; exact .inl (HH.out.waitingIn k (by rw [← e]; exact hk)); exact .inr (by have := h k hk; omega))
    have A4 : Apart S w (wx.setCell ⟨r, 1, none⟩ (Value.slice pv (L + 1) cv)) := ((Apart.of_below b1.out).go (hb.mono fun k hk => HH.out.waitingIn k hk)).setCell (p := ⟨r, 1, none⟩) HH.out.own _
    have hrb : w.heap.size ≠ r := fun e => by have := HS0.out; omega
    have bx4 : (wx.setCell ⟨r, 1, none⟩ (Value.slice pv (L + 1) cv)).heap[w.heap.size]? = _ := (Below.heap_setCell wx ⟨r, 1, none⟩ (Value.slice pv (L + 1) cv) w.heap.size hrb).trans ((hb.block w.heap.size hzb fun e => row_ne HH.out.waiting bx.out (by decide) _ e rfl).trans bx.out)
    clear HS Hrow Hvlt HH hb hj1 hj2 hrow4
    generalize hW4 : (wx.setCell ⟨r, 1, none⟩ (Value.slice pv (L + 1) cv)) = W4 at *
    clear hW4
    obtain ⟨⟨-, y1, y2, -⟩, -⟩ := H4.four
    have y0 : W4.cell? ⟨w.heap.size, 0, none⟩ = some (.pointer (some ⟨r, 0, none⟩)) := by simp [World.cell?, bx4]
    obtain ⟨gp, kp, rfl, hp1, hp2, -, -, -⟩ := H4.places.cells0 (by omega)
    have z1 := H4.places.cellL (v - 1) hvp
    have k1 := H4.places.frozen (v - 1)
    generalize at0 pl (v - 1) = za at z1
    have hpr : gp ≠ r := row_ne H4.places H4.cell (by decide) gp rfl
    have hrp := Ne.symm hpr
    have H5 := H4.setP (v - 1) (L + 1) hvp
    have A5 : Apart S w (W4.setCell ⟨gp, v - 1, none⟩ (.int .i64 (L + 1 : Nat))) := ⟨A4.os, A4.tape, A4.output, by simpa using A4.size, fun k hk hn => (Below.heap_setCell _ _ _ _ (fun e => by
      rcases H4.placesIn gp rfl with h | h
      · exact hn (by rw [e]; exact h)
      · have : k = gp := e
        omega)).trans (A4.block k hk hn)⟩
    have hci : ((L + 1 : Nat) : Int) = (L : Int) + 1 := by omega
    rw [hci] at H5 A5
    have e1 := hwv.out
    have hzq := A4.size
    have H5 := hid H5.bound; have A5 := hid A5
    clear H4 A4 bx4 hci
    go_upto_region 4 with fail
    go_region
    go_wp2
    go_end0
    exact ⟨rfl, _, _, _, H5.out.below (below_drewN (Below.refl _ _) 1), (Hq.out ▸ Hpu.out), fun k hk => ⟨hk.1, hk.2⟩, A5.out.drew⟩
end Go.Proofs.Ytmimmckhnomcdaa
/- queue.Pop. -/
namespace Go.Proofs.Ytmimmckhnomcdaa
open Go.RowKit Big

def RQPop (S : Nat → Prop) (r : Nat) (vw vp : Value) (ws q : List Nat) (ab m : Nat) (w : World) (e : Ending) (w' : World) : Prop :=
  e = .returned (.iface 3 (.int .i64 (at0 q m : Nat))) ∧ ∃ vq pl, RkM w' S r vw vq vp ws (q.take m) pl ab ∧ RkOk ws.length (q.take m) pl ∧ Apart S w w'
set_option maxRecDepth 100000 in
set_option maxHeartbeats 6400000 in
theorem QPop_any {w : World} {S : Nat → Prop} {r : Nat} {vw vq vp : Value} {ws q pl : List Nat} {ab : Nat} (H : RkM w S r vw vq vp ws q pl ab) (m : Nat) (hm : q.length = m + 1)
    (ho : RkOk ws.length q pl) (hn : ws.length ≤ 1000000) :
    Calls Try.prog 52 #[.agg #[.pointer (some ⟨r, 0, none⟩)]] w (RQPop S r vw vp ws q ab m w) := by
  have hfew := ho.few
  have hlp := ho.len
  have hvm := ho.here m (by omega)
  have Hdr := hid (ho.drop hm)
  have b1 := below1 w (.cells #[.pointer (some ⟨r, 0, none⟩)] 52)
  have bx := heap_alloc_new w (.cells #[.pointer (some ⟨r, 0, none⟩)] 52)
  have HH := H.below b1
  have hrlt := H.lt
  obtain ⟨gq, kq, rfl, hq1, hq2, -, mq, -⟩ := HH.waiting.cells0 (by omega)
  obtain ⟨gp, kp, rfl, hp1, hp2, -, -, -⟩ := HH.places.cells0 (by omega)
  rw [hm] at HH hq1 mq
  have z1 := mq m (by omega)
  obtain ⟨v, hv⟩ : ∃ v, v = at0 q m := ⟨_, rfl⟩
  rw [← hv] at hvm z1 Hdr
  have Hv := hid hv
  have hv1 := hvm.1
  have hvp : v - 1 < pl.length := by have := hvm.2.1; omega
  have hwv := hid (wrap_pred v hv1 (by have := hvm.2.1; omega))
  have hm9 : m ≤ 1000000 := by omega
  have hmq : m ≤ kq := by omega
  have Hm := hid hm
  have hwm : Hid (IntKind.i64.wrap (((m + 1 : Nat) : Int) - 1) = (m : Nat)) := hid (by rw [IntWalk.i64_in _ (by omega)]; omega)
  obtain ⟨P, hP⟩ : ∃ P, P = pl.length := ⟨_, rfl⟩
  rw [← hP] at HH hvp hp1 ⊢
  have Hp : Hid (pl.length = P) := hid hP.symm
  obtain ⟨⟨y0, y1, y2, y3⟩, yf⟩ := HH.four
  have f1 := yf 1
  clear hfew hlp H ho hvm mq hm hv hq1 hP yf
  have hwm1 := hwm.out
  go_enter Try.func52, Try.ntmps52
  go_upto_region 3 with fail
  generalize hW : (w.alloc (.cells #[.pointer (some ⟨r, 0, none⟩)] 52)) = W3 at *
  clear hW y0 y2 y3 z1 hwm1
  have yb : W3.cell? ⟨w.heap.size, 0, none⟩ = some (.pointer (some ⟨r, 0, none⟩)) := by simp [World.cell?, bx]
  have hrb : r ≠ w.heap.size := by omega
  have hrow4 : Own W3 0 3 .i64 (Value.slice (some ⟨gq, 0, none⟩) m kq) (q.take m) := HH.waiting.take m (by rw [Hm.out]; omega)
  have H4 : RkM (W3.setCell ⟨r, 1, none⟩ (Value.slice (some ⟨gq, 0, none⟩) m kq)) S r vw (Value.slice (some ⟨gq, 0, none⟩) m kq) (.slice (some ⟨gp, 0, none⟩) P kp) ws (q.take m) pl ab :=
    HH.newQ (Apart.refl _ _) hrow4 (.inl rfl) (fun k hk => HH.waitingIn k hk)
  have A4 : Apart S w (W3.setCell ⟨r, 1, none⟩ (Value.slice (some ⟨gq, 0, none⟩) m kq)) := (Apart.of_below b1).setCell (p := ⟨r, 1, none⟩) HH.own _
  have bx4 : (W3.setCell ⟨r, 1, none⟩ (Value.slice (some ⟨gq, 0, none⟩) m kq)).heap[w.heap.size]? = _ := (Below.heap_setCell W3 ⟨r, 1, none⟩ (Value.slice (some ⟨gq, 0, none⟩) m kq) w.heap.size (Ne.symm hrb)).trans bx
  have H4 := hid H4; have A4 := hid A4; have bx4 := hid bx4
  clear HH hrow4 b1 bx
  go_region
  go_upto_region 4 with fail
  clear y1 yb f1
  have H4 := H4.out.below (below_drewN (Below.refl _ _) 1)
  have A4 := A4.out.drew
  have bx4 : (W3.setCell ⟨r, 1, none⟩ (Value.slice (some ⟨gq, 0, none⟩) m kq)).drew.heap[w.heap.size]? = _ := bx4.out
  change RkM (W3.setCell ⟨r, 1, none⟩ (Value.slice (some ⟨gq, 0, none⟩) m kq)).drew _ _ _ _ _ _ _ _ _ at H4
  generalize hW4 : (W3.setCell ⟨r, 1, none⟩ (Value.slice (some ⟨gq, 0, none⟩) m kq)).drew = W4 at *
  clear hW4
  obtain ⟨⟨-, -, y2, -⟩, -⟩ := H4.four
  have y0 : W4.cell? ⟨w.heap.size, 0, none⟩ = some (.pointer (some ⟨r, 0, none⟩)) := by simp [World.cell?, bx4]
  have z1 := H4.places.cellL (v - 1) (by rw [Hp.out]; exact hvp)
  have k1 := H4.places.frozen (v - 1)
  generalize at0 pl (v - 1) = za at z1
  have H5 := hid (H4.setP (v - 1) 0 (by rw [Hp.out]; exact hvp))
  have A5 := hid (A4.setCell (p := ⟨gp, v - 1, none⟩) (H4.placesIn gp rfl) (.int .i64 (0 : Nat)))
  have e1 := hwv.out
  clear H4 A4 bx4
  go_wp2
  go_ret
  refine ⟨by rw [← Hv.out]; rfl, .slice (some ⟨gq, 0, none⟩) m kq, _, ?_, Hdr.out, ?_⟩
  · exact H5.out
  · exact A5.out
end Go.Proofs.Ytmimmckhnomcdaa
/- heap.up. -/
namespace Go.Proofs.Ytmimmckhnomcdaa
open Go.RowKit Big

/-! the methods of what lies in the interface -/
theorem mLen (x : Value) (w : World) : (method 180 52 x "Len").run Try.prog w = .ok (50, x) w := by kernel_rfl
theorem mLess (x : Value) (w : World) : (method 180 52 x "Less").run Try.prog w = .ok (51, x) w := by kernel_rfl
theorem mSwap (x : Value) (w : World) : (method 180 52 x "Swap").run Try.prog w = .ok (54, x) w := by kernel_rfl
theorem mPush (x : Value) (w : World) : (method 180 52 x "Push").run Try.prog w = .ok (53, x) w := by kernel_rfl
theorem mPop (x : Value) (w : World) : (method 180 52 x "Pop").run Try.prog w = .ok (52, x) w := by kernel_rfl
def RHeap (S : Nat → Prop) (r : Nat) (vw vq vp : Value) (ws q : List Nat) (ab : Nat) (w : World) (e : Ending) (w' : World) : Prop :=
  e = .returned (.tuple #[]) ∧ ∃ q' pl, RkM w' S r vw vq vp ws q' pl ab ∧ RkOk ws.length q' pl ∧ Same q q' ∧ HeapFrom (rkLt ws) (at0 q') q'.length 0 ∧ Apart S w w'
set_option maxRecDepth 100000 in
set_option maxHeartbeats 6400000 in
theorem up_any {w : World} {S : Nat → Prop} {r : Nat} {vw vq vp : Value} {ws q pl : List Nat} {ab : Nat} (H : RkM w S r vw vq vp ws q pl ab) (j0 : Nat) (hj0 : j0 < q.length)
    (ho : RkOk ws.length q pl) (hn : ws.length ≤ 1000000) (hu : UpInv (rkLt ws) (at0 q) q.length j0) :
    Calls Try.prog 33 #[.iface 52 (.agg #[.pointer (some ⟨r, 0, none⟩)]), .int .i64 (j0 : Nat)] w (RHeap S r vw vq vp ws q ab w) := by
  have HH := hid H; have Ho := hid ho; have Hu := hid hu; have Hn := hid hn
  clear H ho hu hn
  go_enter Try.func33, Try.ntmps33
  go_wp2_with fail
  go_loopw [1] (fun vj wr => ∃ (j : Nat) (q' pl' : List Nat), vj = .int .i64 (j : Nat) ∧ Hid (j < q'.length) ∧ Hid (RkM wr S r vw vq vp ws q' pl' ab) ∧ Hid (RkOk ws.length q' pl') ∧ Hid (Same q q') ∧ Hid (UpInv (rkLt ws) (at0 q') q'.length j) ∧ Hid (Apart S w wr)) (fun vj _ => (intOf vj).toNat)
  case atStart => exact ⟨j0, q, pl, rfl, hid hj0, HH, Ho, hid (Same.refl _), Hu, hid (Apart.refl _ _)⟩
  case round =>
    obtain ⟨j, q', pl', rfl, hj, hM, hO, hS, hU, hA⟩ := hrel
    have hfew := hO.out.few
    have hj9 : j ≤ 1000000 := by have := hj.out; have := Hn.out; omega
    clear hfew
    rcases j with _ | k
    · have hfin := hid (UpInv.stop hU.out (.inl rfl))
      go_wp2_with fail
      go_end0
      exact ⟨rfl, q', pl', hM.out, hO.out, hS.out, hfin.out, hA.out⟩
    · have hik : k / 2 < q'.length := by have := hj.out; omega
      have e1 : IntKind.i64.wrap (((k + 1 : Nat) : Int) - 1) = (k : Nat) := by rw [IntWalk.i64_in _ (by omega)]; omega
      have e2 : ((k : Int) / 2 == (k : Int) + 1) = false := by simp; omega
      have e3 : ((k : Int) / 2) = ((k / 2 : Nat) : Int) := by omega
      have e4 : ((k : Int) + 1) = ((k + 1 : Nat) : Int) := by omega
      have L := Less_any hM.out (k + 1) (k / 2) hj.out hik ⟨(hO.out.here _ hj.out).1, (hO.out.here _ hj.out).2.1⟩ ⟨(hO.out.here _ hik).1, (hO.out.here _ hik).2.1⟩ Hn.out
      rw [← e3, ← e4] at L
      generalize hb : decide (rkLt ws (at0 q' (k + 1)) (at0 q' (k / 2))) = bb at L
      have Hik := hid hik; have L := hid L; have Hb := hid hb
      have E3 := hid e3; have E4 := hid e4
      clear hik hb e3 e4
      have hm := fun x w' => mLess x w'
      go_wp2_with fail
      refine L.out.mono ?_
      rintro e w1 ⟨rfl, b1⟩
      have hM1 := hid (hM.out.below b1)
      have hA1 := hid (hA.out.go (Apart.of_below b1))
      clear L hM hA b1
      cases bb
      · have hfin := hid (UpInv.stop hU.out (.inr (by rw [Nat.add_sub_cancel]; exact of_decide_eq_false Hb.out)))
        go_wp2_with fail
        go_end0
        exact ⟨rfl, q', pl', hM1.out, hO.out, hS.out, hfin.out, hA1.out⟩
      · have hlt := of_decide_eq_true Hb.out
        have hup := UpInv.step (rkLt_ok ws) hU.out (Nat.succ_pos k) hj.out (by rw [Nat.add_sub_cancel]; exact hlt)
        rw [Nat.add_sub_cancel] at hup
        have hsw := Swap_any hM1.out (k / 2) (k + 1) Hik.out hj.out hO.out Hn.out
        rw [← E3.out, ← E4.out] at hsw
        have Hsw := hid hsw; have Hup := hid hup
        have hm2 := fun x w' => mSwap x w'
        clear hlt hsw hup hm
        go_wp2_with fail
        refine Hsw.out.mono ?_
        rintro e w2 ⟨rfl, pl2, hM2, hO2, hA2⟩
        have hM2 := hid hM2; have hO2 := hid hO2; have hA2 := hid hA2
        go_wp2_with fail
        go_roundw
        case rel => exact ⟨k / 2, swapL q' (k / 2) (k + 1), pl2, by rw [E3.out], hid (by rw [swapL_len]; exact Hik.out), hM2, hO2, hid (hS.out.trans (Same.swap Hik.out hj.out)), hid (by
            have h := Hup.out
            rw [swapL_len]
            have he : at0 (swapL q' (k / 2) (k + 1)) = swapF (at0 q') (k / 2) (k + 1) := funext fun x => at0_swapL Hik.out hj.out x
            rw [he]; exact h), hid (hA1.out.go hA2.out)⟩
        case measure => simp [intOf]; omega
end Go.Proofs.Ytmimmckhnomcdaa
/- heap.down. -/
namespace Go.Proofs.Ytmimmckhnomcdaa
open Go.RowKit Big

def RDown (S : Nat → Prop) (r : Nat) (vw vq vp : Value) (ws q : List Nat) (ab i0 n : Nat) (w : World) (e : Ending) (w' : World) : Prop :=
  ∃ b q' pl, e = .returned (.bool b) ∧ RkM w' S r vw vq vp ws q' pl ab ∧ RkOk ws.length q' pl ∧ Same q q' ∧ HeapFrom (rkLt ws) (at0 q') n i0 ∧ (∀ k, n ≤ k → at0 q' k = at0 q k) ∧
    (b = false → q' = q) ∧ (b = true → ∃ k, 0 < k ∧ k < n ∧ (k - 1) / 2 = i0 ∧ rkLt ws (at0 q k) (at0 q i0)) ∧ Apart S w w'
def DSt (ws q : List Nat) (n i0 i : Nat) (q' : List Nat) : Prop :=
  Same q q' ∧ DownInv (rkLt ws) (at0 q') n i0 i ∧ (∀ k, n ≤ k → at0 q' k = at0 q k) ∧ (i = i0 → q' = q) ∧ (i ≠ i0 → ∃ k, 0 < k ∧ k < n ∧ (k - 1) / 2 = i0 ∧ rkLt ws (at0 q k) (at0 q i0))
theorem DSt.step {ws q q' : List Nat} {n i0 i j : Nat} (h : DSt ws q n i0 i q') (hj : j = 2 * i + 1 ∨ j = 2 * i + 2) (hjn : j < n) (hn : n ≤ q'.length) (hlt : rkLt ws (at0 q' j) (at0 q' i)) (hs : ∀ k, 0 < k → k < n → (k - 1) / 2 = i → ¬ rkLt ws (at0 q' k) (at0 q' j)) :
    DSt ws q n i0 j (swapL q' i j) := by
  have hii : i < q'.length := by clear h; omega
  have hjj : j < q'.length := by clear h; omega
  obtain ⟨h1, h2, h3, h4, h5⟩ := h
  have he : at0 (swapL q' i j) = swapF (at0 q') i j := funext fun x => at0_swapL hii hjj x
  refine ⟨h1.trans (Same.swap hii hjj), by rw [he]; exact h2.step (rkLt_ok ws) hj hjn hlt hs, fun k hk => ?_, fun e => ?_, fun _ => ?_⟩
  · clear h5 h4; rw [he]; unfold swapF; rw [if_neg (by omega), if_neg (by omega)]; exact h3 k hk
  · clear h5 h4; have := h2.le; omega
  · by_cases e : i = i0
    · have := h4 e; subst this; subst e
      clear h5 h4
      exact ⟨j, by omega, hjn, by omega, hlt⟩
    · exact h5 e
set_option maxRecDepth 100000 in
set_option maxHeartbeats 12800000 in
theorem down_any {w : World} {S : Nat → Prop} {r : Nat} {vw vq vp : Value} {ws q pl : List Nat} {ab : Nat} (H : RkM w S r vw vq vp ws q pl ab) (i0 n : Nat) (hi0 : i0 ≤ 1000000) (hnq : n ≤ q.length)
    (ho : RkOk ws.length q pl) (hn : ws.length ≤ 1000000) (hd : HeapFrom (rkLt ws) (at0 q) n (i0 + 1)) :
    Calls Try.prog 32 #[.iface 52 (.agg #[.pointer (some ⟨r, 0, none⟩)]), .int .i64 (i0 : Nat), .int .i64 (n : Nat)] w (RDown S r vw vq vp ws q ab i0 n w) := by
  have hn9 : n ≤ 1000000 := by have := ho.few; omega
  have HH := hid H; have Ho := hid ho; have Hd := hid hd; have Hn := hid hn; have Hnq := hid hnq
  clear H ho hd hn hnq
  go_enter Try.func32, Try.ntmps32
  go_wp2_with fail
  go_loopw [7] (fun vi wr => ∃ (i : Nat) (q' pl' : List Nat), vi = .int .i64 (i : Nat) ∧ Hid (i ≤ 1000000) ∧ Hid (RkM wr S r vw vq vp ws q' pl' ab) ∧ Hid (RkOk ws.length q' pl') ∧ Hid (DSt ws q n i0 i q') ∧ Hid (Apart S w wr)) (fun vi _ => n - (intOf vi).toNat)
  case atStart => exact ⟨i0, q, pl, rfl, hid hi0, HH, Ho, hid ⟨Same.refl _, DownInv.start Hd.out, fun _ _ => rfl, fun _ => rfl, fun h => absurd rfl h⟩, hid (Apart.refl _ _)⟩
  case round =>
    obtain ⟨i, q', pl', rfl, hi9, hM, hO, hD, hA⟩ := hrel
    have hi9 := hi9.out
    have Hnl : Hid (n ≤ q'.length) := hid (by rw [hD.out.1.1]; exact Hnq.out)
    have E1 : Hid (2 * (i : Int) + 1 = ((2 * i + 1 : Nat) : Int)) := hid (by omega)
    have E2 : Hid (2 * (i : Int) + 1 + 1 = ((2 * i + 2 : Nat) : Int)) := hid (by omega)
    have hend : Hid (∀ wz, RkM wz S r vw vq vp ws q' pl' ab → Apart S w wz → (∀ k, 0 < k → k < n → (k - 1) / 2 = i → ¬ rkLt ws (at0 q' k) (at0 q' i)) → RDown S r vw vq vp ws q ab i0 n w (.returned (.bool (decide (i0 < i)))) wz) := hid fun wz h1 h2 h3 => by
      obtain ⟨d1, d2, d3, d4, d5⟩ := hD.out
      refine ⟨_, q', pl', rfl, h1, hO.out, d1, d2.stop h3, d3, fun e => d4 ?_, fun e => d5 ?_, h2⟩
      · have := of_decide_eq_false e; have := d2.le; clear d4 d5; omega
      · have := of_decide_eq_true e; clear d4 d5; omega
    have hl := fun x w' => mLess x w'
    by_cases h1 : 2 * i + 1 < n
    · have Hl1 : Hid (2 * i + 1 < q'.length) := hid (Nat.lt_of_lt_of_le h1 Hnl.out)
      have Hli : Hid (i < q'.length) := hid (by have := Hl1.out; omega)
      have hh1 := hO.out.here _ Hl1.out
      have hhi := hO.out.here _ Hli.out
      have h1' : 2 * (i : Int) + 1 < (n : Int) := by omega
      by_cases h2 : 2 * i + 2 < n
      · have h2' : 2 * (i : Int) + 1 + 1 < (n : Int) := by omega
        have Hl2 : Hid (2 * i + 2 < q'.length) := hid (Nat.lt_of_lt_of_le h2 Hnl.out)
        have hh2 := hO.out.here _ Hl2.out
        have L := Less_any hM.out (2 * i + 2) (2 * i + 1) Hl2.out Hl1.out ⟨hh2.1, hh2.2.1⟩ ⟨hh1.1, hh1.2.1⟩ Hn.out
        rw [← E1.out, ← E2.out] at L
        generalize hb : decide (rkLt ws (at0 q' (2 * i + 2)) (at0 q' (2 * i + 1))) = bb at L
        have L := hid L; have Hb := hid hb
        have Hh1 := hid hh1; have Hh2 := hid hh2; have Hhi := hid hhi
        clear hb hh1 hh2 hhi
        go_wp2_with fail
        refine L.out.mono ?_
        rintro e w1 ⟨rfl, b1⟩
        have hM := hid (hM.out.below b1)
        have hA := hid (hA.out.go (Apart.of_below b1))
        clear L b1
        cases bb
        case false =>
          have L := Less_any hM.out (2 * i + 1) i Hl1.out Hli.out ⟨Hh1.out.1, Hh1.out.2.1⟩ ⟨Hhi.out.1, Hhi.out.2.1⟩ Hn.out
          rw [← E1.out] at L
          generalize hc : decide (rkLt ws (at0 q' (2 * i + 1)) (at0 q' i)) = cc at L
          have L := hid L; have Hc := hid hc
          have Hsib : Hid (∀ k, 0 < k → k < n → (k - 1) / 2 = i → ¬ rkLt ws (at0 q' k) (at0 q' (2 * i + 1))) := hid fun k h0 hk hp => by
            rcases (by omega : k = 2 * i + 1 ∨ k = 2 * i + 2) with rfl | rfl
            · exact fun h => (rkLt_ok ws).asym _ _ h h
            · exact of_decide_eq_false Hb.out
          clear hc
          go_wp2_with fail
          refine L.out.mono ?_
          rintro e w2 ⟨rfl, b2⟩
          have hM := hid (hM.out.below b2)
          have hA := hid (hA.out.go (Apart.of_below b2))
          clear L b2
          cases cc
          case false =>
            have hfin := hid (hend.out _ hM.out hA.out (fun k h0 hk hp => (rkLt_ok ws).le _ _ _ (of_decide_eq_false Hc.out) (Hsib.out k h0 hk hp)))
            clear hend
            go_wp2_with fail
            go_ret
            exact hfin.out
          case true =>
            have hD2 := hid (hD.out.step (.inl rfl) (by omega) Hnl.out (of_decide_eq_true Hc.out) Hsib.out)
            have hsw := Swap_any hM.out i (2 * i + 1) Hli.out Hl1.out hO.out Hn.out
            rw [← E1.out] at hsw
            have Hsw := hid hsw
            have hl2 := fun x w' => mSwap x w'
            clear hsw hend hl
            go_wp2_with fail
            refine Hsw.out.mono ?_
            rintro e w3 ⟨rfl, pl3, hM3, hO3, hA3⟩
            have hM3 := hid hM3; have hO3 := hid hO3; have hA3 := hid hA3
            go_wp2_with fail
            go_roundw
            case rel => exact ⟨2 * i + 1, swapL q' i (2 * i + 1), pl3, by rw [E1.out], hid (by omega), hM3, hO3, hD2, hid (hA.out.go hA3.out)⟩
            case measure => simp [intOf]; omega
        case true =>
          have L := Less_any hM.out (2 * i + 2) i Hl2.out Hli.out ⟨Hh2.out.1, Hh2.out.2.1⟩ ⟨Hhi.out.1, Hhi.out.2.1⟩ Hn.out
          rw [← E2.out] at L
          generalize hc : decide (rkLt ws (at0 q' (2 * i + 2)) (at0 q' i)) = cc at L
          have L := hid L; have Hc := hid hc
          have Hsib : Hid (∀ k, 0 < k → k < n → (k - 1) / 2 = i → ¬ rkLt ws (at0 q' k) (at0 q' (2 * i + 2))) := hid fun k h0 hk hp => by
            rcases (by omega : k = 2 * i + 1 ∨ k = 2 * i + 2) with rfl | rfl
            · exact (rkLt_ok ws).asym _ _ (of_decide_eq_true Hb.out)
            · exact fun h => (rkLt_ok ws).asym _ _ h h
          clear hc
          go_wp2_with fail
          refine L.out.mono ?_
          rintro e w2 ⟨rfl, b2⟩
          have hM := hid (hM.out.below b2)
          have hA := hid (hA.out.go (Apart.of_below b2))
          clear L b2
          cases cc
          case false =>
            have hfin := hid (hend.out _ hM.out hA.out (fun k h0 hk hp => (rkLt_ok ws).le _ _ _ (of_decide_eq_false Hc.out) (Hsib.out k h0 hk hp)))
            clear hend
            go_wp2_with fail
            go_ret
            exact hfin.out
          case true =>
            have hD2 := hid (hD.out.step (.inr rfl) (by omega) Hnl.out (of_decide_eq_true Hc.out) Hsib.out)
            have hsw := Swap_any hM.out i (2 * i + 2) Hli.out Hl2.out hO.out Hn.out
            rw [← E2.out] at hsw
            have Hsw := hid hsw
            have hl2 := fun x w' => mSwap x w'
            clear hsw hend hl
            go_wp2_with fail
            refine Hsw.out.mono ?_
            rintro e w3 ⟨rfl, pl3, hM3, hO3, hA3⟩
            have hM3 := hid hM3; have hO3 := hid hO3; have hA3 := hid hA3
            go_wp2_with fail
            go_roundw
            case rel => exact ⟨2 * i + 2, swapL q' i (2 * i + 2), pl3, by rw [E2.out], hid (by omega), hM3, hO3, hD2, hid (hA.out.go hA3.out)⟩
            case measure => simp [intOf]; omega
      · have h2' : ¬ (2 * (i : Int) + 1 + 1 < (n : Int)) := by omega
        have Hh1 := hid hh1; have Hhi := hid hhi
        clear hh1 hhi
        have L := Less_any hM.out (2 * i + 1) i Hl1.out Hli.out ⟨Hh1.out.1, Hh1.out.2.1⟩ ⟨Hhi.out.1, Hhi.out.2.1⟩ Hn.out
        rw [← E1.out] at L
        generalize hc : decide (rkLt ws (at0 q' (2 * i + 1)) (at0 q' i)) = cc at L
        have L := hid L; have Hc := hid hc
        have Hsib : Hid (∀ k, 0 < k → k < n → (k - 1) / 2 = i → ¬ rkLt ws (at0 q' k) (at0 q' (2 * i + 1))) := hid fun k h0 hk hp => by
          obtain rfl : k = 2 * i + 1 := by omega
          exact fun h => (rkLt_ok ws).asym _ _ h h
        clear hc
        go_wp2_with fail
        refine L.out.mono ?_
        rintro e w2 ⟨rfl, b2⟩
        have hM := hid (hM.out.below b2)
        have hA := hid (hA.out.go (Apart.of_below b2))
        clear L b2
        cases cc
        case false =>
          have hfin := hid (hend.out _ hM.out hA.out (fun k h0 hk hp => (rkLt_ok ws).le _ _ _ (of_decide_eq_false Hc.out) (Hsib.out k h0 hk hp)))
          clear hend
          go_wp2_with fail
          go_ret
          exact hfin.out
        case true =>
          have hD2 := hid (hD.out.step (.inl rfl) (by omega) Hnl.out (of_decide_eq_true Hc.out) Hsib.out)
          have hsw := Swap_any hM.out i (2 * i + 1) Hli.out Hl1.out hO.out Hn.out
          rw [← E1.out] at hsw
          have Hsw := hid hsw
          have hl2 := fun x w' => mSwap x w'
          clear hsw hend hl
          go_wp2_with fail
          refine Hsw.out.mono ?_
          rintro e w3 ⟨rfl, pl3, hM3, hO3, hA3⟩
          have hM3 := hid hM3; have hO3 := hid hO3; have hA3 := hid hA3
          go_wp2_with fail
          go_roundw
          case rel => exact ⟨2 * i + 1, swapL q' i (2 * i + 1), pl3, by rw [E1.out], hid (by omega), hM3, hO3, hD2, hid (hA.out.go hA3.out)⟩
          case measure => simp [intOf]; omega
    · have h1' : ¬ (2 * (i : Int) + 1 < (n : Int)) := by omega
      have hfin := hid (hend.out wr hM.out hA.out (fun k h0 hk hp => by omega))
      clear hend
      go_wp2_with fail
      go_ret
      exact hfin.out
end Go.Proofs.Ytmimmckhnomcdaa
/- heap.Push, heap.Fix. -/
namespace Go.Proofs.Ytmimmckhnomcdaa
open Go.RowKit Big

def RHPush (S : Nat → Prop) (r : Nat) (vw vp : Value) (ws q : List Nat) (ab : Nat) (w : World) (e : Ending) (w' : World) : Prop :=
  e = .returned (.tuple #[]) ∧ ∃ S' vq q' pl, RkM w' S' r vw vq vp ws q' pl ab ∧ RkOk ws.length q' pl ∧ Same q q' ∧ HeapFrom (rkLt ws) (at0 q') q'.length 0 ∧ (∀ k, S' k → (S k ∨ w.heap.size ≤ k) ∧ k < w'.heap.size) ∧ Apart S w w'
theorem UpInv.snoc {lt : Nat → Nat → Prop} {q : List Nat} (v : Nat) (h : HeapFrom lt (at0 q) q.length 0) : UpInv lt (at0 (q ++ [v])) (q ++ [v]).length q.length := by
  refine ⟨fun k h0 hk hne => ?_, fun k h0 hk hp _ => ?_⟩
  · have hk' : k < q.length := by simp at hk; omega
    rw [at0_append_left hk', at0_append_left (by omega)]
    exact h k h0 hk' (Nat.zero_le _)
  · simp at hk; omega
theorem Apart.wide {S S' : Nat → Prop} {a b c : World} (h : Apart S a b) (k : Apart S' b c) (hS : ∀ i, S' i → (S i ∨ a.heap.size ≤ i) ∧ i < b.heap.size) : Apart S a c := h.trans k fun i hi => (hS i hi).1
set_option maxRecDepth 100000 in
set_option maxHeartbeats 6400000 in
theorem HPush_any {w : World} {S : Nat → Prop} {r : Nat} {vw vq vp : Value} {ws q pl : List Nat} {ab : Nat} (H : RkM w S r vw vq vp ws q pl ab) (v : Nat) (hv1 : 1 ≤ v) (hv2 : v ≤ ws.length) (hz : at0 pl (v - 1) = 0)
    (ho : RkOk ws.length q pl) (hn : ws.length ≤ 1000000) (hh : HeapFrom (rkLt ws) (at0 q) q.length 0) :
    Calls Try.prog 29 #[.iface 52 (.agg #[.pointer (some ⟨r, 0, none⟩)]), .iface 3 (.int .i64 (v : Nat))] w (RHPush S r vw vp ws (q ++ [v]) ab w) := by
  have P := hid (Push_any H v hv1 hv2 hz ho hn)
  have Hh := hid (UpInv.snoc v hh)
  have Hn := hid hn
  have hl1 : (q ++ [v]).length = q.length + 1 := by simp
  have hl9 : q.length ≤ 1000000 := by have := ho.few; omega
  have e1 : IntKind.i64.wrap (((q.length + 1 : Nat) : Int) - 1) = (q.length : Nat) := by rw [IntWalk.i64_in _ (by omega)]; omega
  have Hl := hid hl1
  clear H hv1 hv2 hz ho hn hh hl1
  generalize q.length = L at *
  have hm := fun x w' => mPush x w'
  go_enter Try.func29, Try.ntmps29
  go_wp2_with fail
  refine P.out.mono ?_
  rintro e w1 ⟨rfl, S1, vq1, pl1, hM, hO, hS1, hA⟩
  have U := hid (Len_any hM)
  rw [Hl.out] at U
  have hM := hid hM; have hO := hid hO; have hS1 := hid hS1; have hA := hid hA
  have hm2 := fun x w' => mLen x w'
  clear P hm
  go_wp2_with fail
  refine U.out.mono ?_
  rintro e w2 ⟨rfl, b2⟩
  have hup := hid (up_any (hM.out.below b2) L (by rw [Hl.out]; omega) hO.out Hn.out Hh.out)
  have hA2 := hid (hA.out.go (Apart.of_below b2))
  have hz2 := b2.size
  clear U hm2 b2
  go_wp2_with fail
  refine hup.out.mono ?_
  rintro e w3 ⟨rfl, q3, pl3, hM3, hO3, hS3, hH3, hA3⟩
  have hz3 := hA3.size
  have hfin : RHPush S r vw vp ws (q ++ [v]) ab w (.returned (.tuple #[])) w3 := ⟨rfl, S1, vq1, q3, pl3, hM3, hO3, hS3, hH3, fun k hk => ⟨(hS1.out k hk).1, by have := (hS1.out k hk).2; omega⟩, hA2.out.trans hA3 fun k hk => (hS1.out k hk).1⟩
  have hfin := hid hfin
  clear hM3 hO3 hS3 hH3 hA3 hz3 hz2
  go_wp2_with fail
  go_end0
  exact hfin.out
set_option maxRecDepth 100000 in
set_option maxHeartbeats 6400000 in
theorem HFix_any {w : World} {S : Nat → Prop} {r : Nat} {vw vq vp : Value} {ws q pl : List Nat} {ab : Nat} (H : RkM w S r vw vq vp ws q pl ab) (i : Nat) (hi : i < q.length)
    (ho : RkOk ws.length q pl) (hn : ws.length ≤ 1000000) (hd : HeapFrom (rkLt ws) (at0 q) q.length (i + 1)) (hc : ∀ k, 0 < k → k < q.length → (k - 1) / 2 = i → ¬ rkLt ws (at0 q k) (at0 q i)) (hu : UpInv (rkLt ws) (at0 q) q.length i) :
    Calls Try.prog 26 #[.iface 52 (.agg #[.pointer (some ⟨r, 0, none⟩)]), .int .i64 (i : Nat)] w (RHeap S r vw vq vp ws q ab w) := by
  have U := hid (Len_any H)
  have hm := fun x w' => mLen x w'
  have HH := hid H; have Ho := hid ho; have Hd := hid hd; have Hc := hid hc; have Hu := hid hu; have Hi := hid hi; have Hn := hid hn
  have hi9 : i ≤ 1000000 := by have := ho.few; omega
  clear H ho hd hc hu hi hn
  go_enter Try.func26, Try.ntmps26
  go_wp2_with fail
  refine U.out.mono ?_
  rintro e w1 ⟨rfl, b1⟩
  have hM := HH.out.below b1
  have hA := hid (Apart.of_below (S := S) b1)
  have hdn := hid (down_any hM i q.length hi9 (Nat.le_refl _) Ho.out Hn.out Hd.out)
  clear U hm b1 hM HH
  go_wp2_with fail
  refine hdn.out.mono ?_
  rintro e w2 ⟨b, q2, pl2, rfl, hM2, hO2, hS2, hH2, hK2, hF2, hT2, hA2⟩
  have hb : b = false := by
    cases b
    · rfl
    · obtain ⟨k, h0, h1, h2, h3⟩ := hT2 rfl
      exact absurd h3 (Hc.out k h0 h1 h2)
  subst hb
  obtain rfl := hF2 rfl
  have hup := hid (up_any hM2 i Hi.out hO2 Hn.out Hu.out)
  have hA2 := hid (hA.out.go hA2)
  clear hM2 hO2 hS2 hH2 hK2 hF2 hT2 hdn
  go_wp2_with fail
  refine hup.out.mono ?_
  rintro e w3 ⟨rfl, q3, pl3, hM3, hO3, hS3, hH3, hA3⟩
  have hfin : RHeap S r vw vq vp ws q2 ab w (.returned (.tuple #[])) w3 := ⟨rfl, q3, pl3, hM3, hO3, hS3, hH3, hA2.out.go hA3⟩
  have hfin := hid hfin
  clear hM3 hO3 hS3 hH3 hA3 hup
  go_wp2_with fail
  go_end0
  exact hfin.out
set_option maxRecDepth 100000 in
set_option maxHeartbeats 6400000 in
theorem HInit_any {w : World} {S : Nat → Prop} {r : Nat} {vw vq vp : Value} {ws q pl : List Nat} {ab : Nat} (H : RkM w S r vw vq vp ws q pl ab) (ho : RkOk ws.length q pl) (hn : ws.length ≤ 1000000) :
    Calls Try.prog 31 #[.iface 52 (.agg #[.pointer (some ⟨r, 0, none⟩)])] w (RHeap S r vw vq vp ws q ab w) := by
  have U := hid (Len_any H)
  have hm := fun x w' => mLen x w'
  have HH := hid H; have Ho := hid ho; have Hn := hid hn
  obtain ⟨n, hnq⟩ : ∃ n, n = q.length := ⟨_, rfl⟩
  have hn9 : n ≤ 1000000 := by have := ho.few; omega
  rw [← hnq] at U
  have Hq := hid hnq
  clear H ho hn hnq
  go_enter Try.func31, Try.ntmps31
  go_wp2_with fail
  refine U.out.mono ?_
  rintro e w1 ⟨rfl, b1⟩
  have HH := hid (HH.out.below b1)
  have hA := hid (Apart.of_below (S := S) b1)
  clear U hm b1
  go_wp2_with fail
  go_loopw [3] (fun vi wr => ∃ (k : Nat) (q' pl' : List Nat), vi = .int .i64 ((k : Int) - 1) ∧ k ≤ 1000000 ∧ Hid (RkM wr S r vw vq vp ws q' pl' ab) ∧ Hid (RkOk ws.length q' pl') ∧ Hid (Same q q') ∧ Hid (HeapFrom (rkLt ws) (at0 q') n k) ∧ Hid (Apart S w wr)) (fun vi _ => (intOf vi + 1).toNat)
  case atStart => exact ⟨n / 2, q, pl, by first | go_num | rfl | (congr 1; omega), by omega, HH, Ho, hid (Same.refl _), hid (fun k h0 hk hp => by omega), hA⟩
  case round =>
    obtain ⟨k, q', pl', rfl, hk9, hM, hO, hS, hH, hA⟩ := hrel
    rcases k with _ | k
    · have hfin : Hid (RHeap S r vw vq vp ws q ab w (.returned (.tuple #[])) wr) := hid ⟨rfl, q', pl', hM.out, hO.out, hS.out, by rw [hS.out.1, ← Hq.out]; exact hH.out, hA.out⟩
      go_wp2_with fail
      go_end0
      exact hfin.out
    · have hdn := hid (down_any hM.out k n (by omega) (by rw [hS.out.1, ← Hq.out]; exact Nat.le_refl _) hO.out Hn.out hH.out)
      have e3 : (((k + 1 : Nat) : Int) - 1) = (k : Nat) := by omega
      rw [e3]
      clear e3
      go_wp2_with fail
      refine hdn.out.mono ?_
      rintro e w2 ⟨b, q2, pl2, rfl, hM2, hO2, hS2, hH2, hK2, hF2, hT2, hA2⟩
      have hM2 := hid hM2; have hO2 := hid hO2; have hS2 := hid hS2; have hH2 := hid hH2; have hA2 := hid hA2
      clear hK2 hF2 hT2
      go_wp2_with fail
      go_roundw
      case rel => exact ⟨k, q2, pl2, by go_num, by omega, hM2, hO2, hid (hS.out.trans hS2.out), hH2, hid (hA.out.go hA2.out)⟩
      case measure => simp [intOf]
end Go.Proofs.Ytmimmckhnomcdaa
/- A rank in plain words: weights, who waits, the step; what its calls make of it. -/
namespace Go.Proofs.Ytmimmckhnomcdaa

structure Rk where
  ws : List Nat
  wt : List Bool
  st : Nat
def Waits (q : List Nat) (v : Nat) : Prop := ∃ i, i < q.length ∧ at0 q i = v
def wt0 (l : List Bool) (i : Nat) : Bool := l.getD i false
structure RkGood (rk : Rk) (q pl : List Nat) : Prop where
  ok : RkOk rk.ws.length q pl
  heap : HeapFrom (rkLt rk.ws) (at0 q) q.length 0
  len : rk.wt.length = rk.ws.length
  waits : ∀ v, 1 ≤ v → v ≤ rk.ws.length → (Waits q v ↔ wt0 rk.wt (v - 1) = true)
  small : ∀ i, at0 rk.ws i < 1152921504606846976
  step : 1 ≤ rk.st ∧ rk.st ≤ 576460752303423488
  few : rk.ws.length ≤ 1000000
def rkHas (rk : Rk) (v : Int) : Bool := decide (1 ≤ v) && decide (v ≤ (rk.ws.length : Int))
def putAt (rk : Rk) (k : Nat) : Rk := { rk with wt := rk.wt.set k true }
def rkPut (rk : Rk) (v : Int) : Rk := if rkHas rk v then putAt rk (v.toNat - 1) else rk
def growN (rk : Rk) : Rk := ⟨rk.ws ++ [0], rk.wt ++ [false], rk.st⟩
def rkGrow (rk : Rk) : Rk := ⟨rk.ws ++ [0], rk.wt ++ [true], rk.st⟩
def rkDecay (rk : Rk) : Rk := { rk with st := min (rk.st + rk.st / 16 + 1) 576460752303423488 }
def rkWeight (rk : Rk) (v : Int) : Nat := if rkHas rk v then at0 rk.ws (v.toNat - 1) else 0
def light (rk : Rk) : Rk := ⟨rk.ws.map (· / 1073741824), rk.wt, max (rk.st / 1073741824) 1⟩
def addAt (rk : Rk) (k : Nat) : Rk := { rk with ws := rk.ws.set k (at0 rk.ws k + rk.st) }
def bumpAt (rk : Rk) (k : Nat) : Rk := if 1152921504606846976 ≤ at0 rk.ws k + rk.st then light (addAt rk k) else addAt rk k
def rkBump (rk : Rk) (v : Int) : Rk := if rkHas rk v then bumpAt rk (v.toNat - 1) else rk
/-- v comes next -/
structure Next (rk : Rk) (v : Nat) : Prop where
  pos : 1 ≤ v
  le : v ≤ rk.ws.length
  waits : wt0 rk.wt (v - 1) = true
  least : ∀ u, 1 ≤ u → u ≤ rk.ws.length → wt0 rk.wt (u - 1) = true → ¬ rkLt rk.ws u v
def popAt (rk : Rk) (k : Nat) : Rk := { rk with wt := rk.wt.set k false }
theorem Next.unique {rk : Rk} {v u : Nat} (h : Next rk v) (k : Next rk u) : v = u := by
  by_cases e : v = u
  · exact e
  · rcases rkLt_total rk.ws e with h1 | h1
    · exact absurd h1 (k.least v h.pos h.le h.waits)
    · exact absurd h1 (h.least u k.pos k.le k.waits)

theorem wt0_set (l : List Bool) (i k : Nat) (b : Bool) (hi : i < l.length) : wt0 (l.set i b) k = if k = i then b else wt0 l k := by
  unfold wt0
  simp only [List.getD_eq_getElem?_getD, List.getElem?_set]
  by_cases h : i = k
  · subst h; simp [hi]
  · rw [if_neg h, if_neg (by omega)]
theorem wt0_snoc (l : List Bool) (b : Bool) (k : Nat) : wt0 (l ++ [b]) k = if k = l.length then b else wt0 l k := by
  unfold wt0
  simp only [List.getD_eq_getElem?_getD]
  by_cases h : k = l.length
  · subst h; simp
  · rw [if_neg h]
    by_cases h2 : k < l.length
    · rw [List.getElem?_append_left h2]
    · rw [List.getElem?_eq_none (by simp; omega), List.getElem?_eq_none (by omega)]
theorem at0_snoc0 (l : List Nat) : at0 (l ++ [0]) = at0 l := by
  funext k
  unfold at0
  simp only [List.getD_eq_getElem?_getD]
  by_cases h2 : k < l.length
  · rw [List.getElem?_append_left h2]
  · by_cases h : k = l.length
    · subst h; simp
    · rw [List.getElem?_eq_none (by simp; omega), List.getElem?_eq_none (by omega)]
theorem wt0_out (l : List Bool) (k : Nat) (h : l.length ≤ k) : wt0 l k = false := by
  unfold wt0; simp [List.getD_eq_getElem?_getD, List.getElem?_eq_none h]
theorem at0_out (l : List Nat) (k : Nat) (h : l.length ≤ k) : at0 l k = 0 := by
  unfold at0; simp [List.getD_eq_getElem?_getD, List.getElem?_eq_none h]
theorem RkOk.away_iff {n : Nat} {q pl : List Nat} (h : RkOk n q pl) {v : Nat} (h1 : 1 ≤ v) (h2 : v ≤ n) : Waits q v ↔ at0 pl (v - 1) ≠ 0 := by
  constructor
  · rintro ⟨i, hi, e⟩
    have := (h.here i hi).2.2
    rw [e] at this
    omega
  · intro hne
    rcases h.away v h1 h2 with h3 | ⟨h3, h4⟩
    · exact absurd h3 hne
    · exact ⟨at0 pl (v - 1) - 1, by omega, h4⟩
theorem RkGood.put {rk : Rk} {q pl q' pl' : List Nat} {k : Nat} (h : RkGood rk q pl) (hk : k < rk.ws.length) (hs : Same (q ++ [k + 1]) q') (ho : RkOk rk.ws.length q' pl') (hh : HeapFrom (rkLt rk.ws) (at0 q') q'.length 0) :
    RkGood (putAt rk k) q' pl' := by
  refine ⟨ho, hh, by simp [putAt, h.len], fun v h1 h2 => ?_, h.small, h.step, h.few⟩
  show Waits q' v ↔ wt0 (rk.wt.set k true) (v - 1) = true
  rw [wt0_set _ _ _ _ (by rw [h.len]; exact hk)]
  refine (hs.2 v).trans ?_
  by_cases e : v - 1 = k
  · rw [if_pos e]
    refine ⟨fun _ => rfl, fun _ => ⟨q.length, by simp, ?_⟩⟩
    rw [at0_append_right]; omega
  · rw [if_neg e, ← h.waits v h1 h2]
    constructor
    · rintro ⟨i, hi, e2⟩
      by_cases hl : i < q.length
      · exact ⟨i, hl, by rw [at0_append_left hl] at e2; exact e2⟩
      · obtain rfl : i = q.length := by simp at hi; omega
        rw [at0_append_right] at e2; omega
    · rintro ⟨i, hi, e2⟩
      exact ⟨i, by simp; omega, by rw [at0_append_left hi]; exact e2⟩
theorem RkGood.put_same {rk : Rk} {q pl : List Nat} {k : Nat} (h : RkGood rk q pl) (hk : k < rk.ws.length) (hz : at0 pl k ≠ 0) : putAt rk k = rk := by
  have hw := (h.waits (k + 1) (by omega) (by omega)).1 ((h.ok.away_iff (by omega) (by omega)).2 hz)
  rw [Nat.add_sub_cancel] at hw
  have : rk.wt.set k true = rk.wt := by
    have hl : k < rk.wt.length := by rw [h.len]; exact hk
    apply List.ext_getElem (by simp)
    intro i h1 h2
    rw [List.getElem_set]
    split
    · next e => subst e; unfold wt0 at hw; simpa [List.getD_eq_getElem?_getD, hl] using hw.symm
    · rfl
  unfold putAt
  rw [this]
theorem RkGood.grow {rk : Rk} {q pl : List Nat} (h : RkGood rk q pl) (hf : rk.ws.length < 1000000) : RkGood (growN rk) q (pl ++ [0]) := by
  have hlt : rkLt (rk.ws ++ [0]) = rkLt rk.ws := by funext a b; unfold rkLt; rw [at0_snoc0]
  refine ⟨?_, ?_, by simp [growN, h.len], fun v h1 h2 => ?_, fun i => ?_, h.step, by simp [growN]; omega⟩
  · show RkOk (rk.ws ++ [0]).length q (pl ++ [0])
    rw [List.length_append]; exact h.ok.grow
  · show HeapFrom (rkLt (rk.ws ++ [0])) _ _ _
    rw [hlt]; exact h.heap
  · show Waits q v ↔ wt0 (rk.wt ++ [false]) (v - 1) = true
    rw [wt0_snoc]
    by_cases e : v - 1 = rk.wt.length
    · rw [if_pos e]
      have hl := h.len
      refine ⟨fun ⟨i, hi, e2⟩ => ?_, fun e2 => by cases e2⟩
      have := (h.ok.here i hi).2.1
      omega
    · rw [if_neg e]
      have hl := h.len
      have h2' : v ≤ rk.ws.length + 1 := by simpa [growN] using h2
      exact h.waits v h1 (by omega)
  · show at0 (rk.ws ++ [0]) i < _
    rw [at0_snoc0]; exact h.small i
theorem putAt_growN (rk : Rk) (h : rk.wt.length = rk.ws.length) : putAt (growN rk) rk.ws.length = rkGrow rk := by
  unfold putAt growN rkGrow
  simp [← h]
theorem RkGood.decay {rk : Rk} {q pl : List Nat} (h : RkGood rk q pl) : RkGood (rkDecay rk) q pl :=
  ⟨h.ok, h.heap, h.len, h.waits, h.small, by have := h.step; unfold rkDecay; dsimp only; omega, h.few⟩
theorem RkGood.add_small {rk : Rk} {q pl : List Nat} {k : Nat} (h : RkGood rk q pl) : at0 rk.ws k + rk.st ≤ 1729382256910270464 := by
  have h1 := h.small k; have h2 := h.step.2; omega
theorem rkLt_add {rk : Rk} {k : Nat} (hk : k < rk.ws.length) {a b : Nat} (ha : 1 ≤ a) (hb : 1 ≤ b) : rkLt (addAt rk k).ws a b ↔
    (if b = k + 1 then at0 rk.ws k + rk.st else at0 rk.ws (b - 1)) < (if a = k + 1 then at0 rk.ws k + rk.st else at0 rk.ws (a - 1)) ∨
    ((if a = k + 1 then at0 rk.ws k + rk.st else at0 rk.ws (a - 1)) = (if b = k + 1 then at0 rk.ws k + rk.st else at0 rk.ws (b - 1)) ∧ a < b) := by
  unfold rkLt addAt
  dsimp only
  rw [at0_set _ _ _ _ hk, at0_set _ _ _ _ hk]
  have e1 : (a - 1 = k) = (a = k + 1) := by apply propext; omega
  have e2 : (b - 1 = k) = (b = k + 1) := by apply propext; omega
  rw [show (if a - 1 = k then at0 rk.ws k + rk.st else at0 rk.ws (a - 1)) = (if a = k + 1 then at0 rk.ws k + rk.st else at0 rk.ws (a - 1)) by simp only [e1],
    show (if b - 1 = k then at0 rk.ws k + rk.st else at0 rk.ws (b - 1)) = (if b = k + 1 then at0 rk.ws k + rk.st else at0 rk.ws (b - 1)) by simp only [e2]]
/-- who didn't turn, and stands behind, stands behind still -/
theorem rkLt_add_not {rk : Rk} {k : Nat} (hk : k < rk.ws.length) {a b : Nat} (ha : 1 ≤ a) (hb : 1 ≤ b) (hne : a ≠ k + 1) (h : ¬ rkLt rk.ws a b) : ¬ rkLt (addAt rk k).ws a b := by
  rw [rkLt_add hk ha hb, if_neg hne]
  unfold rkLt at h
  by_cases e : b = k + 1
  · rw [if_pos e]; subst e; rw [Nat.add_sub_cancel] at h; omega
  · rw [if_neg e]; exact h
/-- behind an addition: what heap.Fix asks -/
theorem RkGood.fix {rk : Rk} {q pl : List Nat} {k : Nat} (h : RkGood rk q pl) (hk : k < rk.ws.length) {i : Nat} (hi : i < q.length) (hq : at0 q i = k + 1) :
    HeapFrom (rkLt (addAt rk k).ws) (at0 q) q.length (i + 1) ∧ (∀ j, 0 < j → j < q.length → (j - 1) / 2 = i → ¬ rkLt (addAt rk k).ws (at0 q j) (at0 q i)) ∧ UpInv (rkLt (addAt rk k).ws) (at0 q) q.length i := by
  have hpos : ∀ j, j < q.length → 1 ≤ at0 q j := fun j hj => (h.ok.here j hj).1
  have hne : ∀ j, j < q.length → j ≠ i → at0 q j ≠ k + 1 := fun j hj hji e => hji (h.ok.inj hj hi (e.trans hq.symm))
  have key : ∀ j, 0 < j → j < q.length → j ≠ i → ¬ rkLt (addAt rk k).ws (at0 q j) (at0 q ((j - 1) / 2)) := fun j h0 hj hji =>
    rkLt_add_not hk (hpos j hj) (hpos _ (by omega)) (hne j hj hji) (h.heap j h0 hj (Nat.zero_le _))
  refine ⟨fun j h0 hj hp => key j h0 hj (by omega), fun j h0 hj hp => ?_, key, fun j h0 hj hp hi0 => ?_⟩
  · have := key j h0 hj (by omega)
    rw [hp] at this
    exact this
  · have h1 := h.heap j h0 hj (Nat.zero_le _)
    have h2 := h.heap i hi0 hi (Nat.zero_le _)
    rw [hp] at h1
    have h3 := (rkLt_ok rk.ws).le _ _ _ h2 h1
    exact rkLt_add_not hk (hpos j hj) (hpos _ (by omega)) (hne j hj (by omega)) h3
theorem RkGood.added {rk : Rk} {q pl q' pl' : List Nat} {k : Nat} (h : RkGood rk q pl) (hk : k < rk.ws.length) (hx : at0 rk.ws k + rk.st < 1152921504606846976) (hs : Same q q') (ho : RkOk rk.ws.length q' pl')
    (hh : HeapFrom (rkLt (addAt rk k).ws) (at0 q') q'.length 0) : RkGood (addAt rk k) q' pl' := by
  have hl : (addAt rk k).ws.length = rk.ws.length := by simp [addAt]
  refine ⟨by rw [hl]; exact ho, hh, by rw [hl]; exact h.len, fun v h1 h2 => (hs.2 v).trans (h.waits v h1 (by omega)), fun i => ?_, h.step, by rw [hl]; exact h.few⟩
  show at0 (rk.ws.set k _) i < _
  rw [at0_set _ _ _ _ hk]
  split
  · exact hx
  · exact h.small i
theorem at0_map_div (l : List Nat) (d i : Nat) : at0 (l.map (· / d)) i = at0 l i / d := by
  unfold at0
  simp only [List.getD_eq_getElem?_getD, List.getElem?_map]
  cases l[i]? <;> simp
theorem RkGood.lit {rk : Rk} {q pl q' pl' : List Nat} {k : Nat} (h : RkGood rk q pl) (hk : k < rk.ws.length) (hs : Same q q') (ho : RkOk rk.ws.length q' pl')
    (hh : HeapFrom (rkLt (light (addAt rk k)).ws) (at0 q') q'.length 0) : RkGood (light (addAt rk k)) q' pl' := by
  have hl : (light (addAt rk k)).ws.length = rk.ws.length := by simp [light, addAt]
  refine ⟨by rw [hl]; exact ho, hh, by rw [hl]; exact h.len, fun v h1 h2 => (hs.2 v).trans (h.waits v h1 (by omega)), fun i => ?_, ?_, by rw [hl]; exact h.few⟩
  · show at0 ((rk.ws.set k _).map (· / 1073741824)) i < _
    rw [at0_map_div, at0_set _ _ _ _ hk]
    have h1 := h.small i
    have h2 := h.add_small (k := k)
    split <;> omega
  · have := h.step
    show 1 ≤ max (rk.st / 1073741824) 1 ∧ max (rk.st / 1073741824) 1 ≤ 576460752303423488
    omega
theorem RkGood.next {rk : Rk} {q pl : List Nat} (h : RkGood rk q pl) (h0 : 0 < q.length) : Next rk (at0 q 0) := by
  have hh := h.ok.here 0 h0
  refine ⟨hh.1, hh.2.1, (h.waits _ hh.1 hh.2.1).1 ⟨0, h0, rfl⟩, fun u h1 h2 h3 => ?_⟩
  obtain ⟨i, hi, e⟩ := (h.waits u h1 h2).2 h3
  rw [← e]
  exact h.heap.root (rkLt_ok rk.ws) i hi
theorem RkGood.pop {rk : Rk} {q pl q' pl' : List Nat} {v : Nat} (h : RkGood rk q pl) (hv1 : 1 ≤ v) (hv2 : v ≤ rk.ws.length) (ho : RkOk rk.ws.length q' pl') (hh : HeapFrom (rkLt rk.ws) (at0 q') q'.length 0) (hw : ∀ u, Waits q' u ↔ Waits q u ∧ u ≠ v) :
    RkGood (popAt rk (v - 1)) q' pl' := by
  refine ⟨ho, hh, by simp [popAt, h.len], fun u h1 h2 => ?_, h.small, h.step, h.few⟩
  show Waits q' u ↔ wt0 (rk.wt.set (v - 1) false) (u - 1) = true
  rw [wt0_set _ _ _ _ (by rw [h.len]; omega)]
  refine (hw u).trans ?_
  by_cases e : u - 1 = v - 1
  · rw [if_pos e]
    exact ⟨fun h => absurd (by omega) h.2, fun e => by cases e⟩
  · rw [if_neg e, ← h.waits u h1 h2]
    exact ⟨fun h => h.1, fun h => ⟨h, by omega⟩⟩
/-- nobody waits -/
theorem RkGood.none {rk : Rk} {q pl : List Nat} (h : RkGood rk q pl) (h0 : q.length = 0) : ∀ u, 1 ≤ u → u ≤ rk.ws.length → wt0 rk.wt (u - 1) = false := by
  intro u h1 h2
  cases hw : wt0 rk.wt (u - 1)
  · rfl
  · obtain ⟨i, hi, _⟩ := (h.waits u h1 h2).2 hw
    omega
/-- the last of a list whose first and last were exchanged is taken away -/
theorem waits_drop {n m : Nat} {q q2 pl2 : List Nat} (hs : Same (swapL q 0 m) q2) (hm : q.length = m + 1) (hl : at0 q2 m = at0 (swapL q 0 m) m) (ho : RkOk n q2 pl2) : ∀ v, Waits (q2.take m) v ↔ Waits q v ∧ v ≠ at0 q 0 := by
  have hl2 : q2.length = m + 1 := by rw [hs.1, swapL_len]; exact hm
  have hlast : at0 q2 m = at0 q 0 := by
    rw [hl, at0_swapL (by omega) (by omega)]; unfold swapF; rw [if_pos rfl]
  intro v
  have h1 : Waits q2 v ↔ Waits q v := (hs.2 v).trans ((Same.swap (by omega) (by omega)).2 v)
  rw [← h1, ← hlast]
  constructor
  · rintro ⟨i, hi, e⟩
    have hi' : i < m := by simp at hi; omega
    rw [at0_take hi'] at e
    refine ⟨⟨i, by omega, e⟩, fun e2 => ?_⟩
    have := ho.inj (i := i) (j := m) (by omega) (by omega) (e.trans e2)
    omega
  · rintro ⟨⟨i, hi, e⟩, hne⟩
    have : i ≠ m := by rintro rfl; exact hne e.symm
    exact ⟨i, by simp; omega, by rw [at0_take (by omega)]; exact e⟩
end Go.Proofs.Ytmimmckhnomcdaa
/- heap.Pop. -/
namespace Go.Proofs.Ytmimmckhnomcdaa
open Go.RowKit Big

def RHPop (S : Nat → Prop) (r : Nat) (vw vp : Value) (ws q : List Nat) (ab m : Nat) (w : World) (e : Ending) (w' : World) : Prop :=
  e = .returned (.iface 3 (.int .i64 (at0 q 0 : Nat))) ∧ ∃ vq q' pl, RkM w' S r vw vq vp ws q' pl ab ∧ RkOk ws.length q' pl ∧ HeapFrom (rkLt ws) (at0 q') q'.length 0 ∧ (∀ v, Waits q' v ↔ Waits q v ∧ v ≠ at0 q 0) ∧ Apart S w w'
set_option maxRecDepth 100000 in
set_option maxHeartbeats 6400000 in
theorem HPop_any {w : World} {S : Nat → Prop} {r : Nat} {vw vq vp : Value} {ws q pl : List Nat} {ab : Nat} (H : RkM w S r vw vq vp ws q pl ab) (m : Nat) (hm : q.length = m + 1)
    (ho : RkOk ws.length q pl) (hn : ws.length ≤ 1000000) (hh : HeapFrom (rkLt ws) (at0 q) q.length 0) :
    Calls Try.prog 30 #[.iface 52 (.agg #[.pointer (some ⟨r, 0, none⟩)])] w (RHPop S r vw vp ws q ab m w) := by
  have U := Len_any H
  have hm1 := fun x w' => mLen x w'
  have hm9 : m ≤ 1000000 := by have := ho.few; omega
  have e1 : IntKind.i64.wrap (((m + 1 : Nat) : Int) - 1) = (m : Nat) := by rw [IntWalk.i64_in _ (by omega)]; omega
  rw [hm] at U
  have U := hid U
  have HH := hid H; have Ho := hid ho; have Hh := hid hh; have Hn := hid hn; have Hm := hid hm
  clear H ho hh hn hm
  go_enter Try.func30, Try.ntmps30
  go_wp2_with fail
  refine U.out.mono ?_
  rintro e w1 ⟨rfl, b1⟩
  have hsw := Swap_any (HH.out.below b1) 0 m (by rw [Hm.out]; omega) (by rw [Hm.out]; omega) Ho.out Hn.out
  have Hsw := hid hsw
  have hA := hid (Apart.of_below (S := S) b1)
  have hm2 := fun x w' => mSwap x w'
  clear U hm1 b1 HH hsw
  go_wp2_with fail
  refine Hsw.out.mono ?_
  rintro e w2 ⟨rfl, pl2, hM2, hO2, hA2⟩
  have he : at0 (swapL q 0 m) = swapF (at0 q) 0 m := funext fun x => at0_swapL (by rw [Hm.out]; omega) (by rw [Hm.out]; omega) x
  have hd : HeapFrom (rkLt ws) (at0 (swapL q 0 m)) m (0 + 1) := by
    rw [he]
    intro k h0 hk hp
    unfold swapF
    rw [if_neg (by omega), if_neg (by omega), if_neg (by omega), if_neg (by omega)]
    exact Hh.out k h0 (by rw [Hm.out]; omega) (Nat.zero_le _)
  have hdn := hid (down_any hM2 0 m (by omega) (by rw [swapL_len, Hm.out]; omega) hO2 Hn.out hd)
  have hA2 := hid (hA.out.go hA2)
  clear Hsw hm2 hM2 hO2 he hd
  go_wp2_with fail
  refine hdn.out.mono ?_
  rintro e w3 ⟨b, q3, pl3, rfl, hM3, hO3, hS3, hH3, hK3, -, -, hA3⟩
  have hl3 : q3.length = m + 1 := by rw [hS3.1, swapL_len]; exact Hm.out
  have hpp := QPop_any hM3 m hl3 hO3 Hn.out
  have hlast : at0 q3 m = at0 q 0 := by
    rw [hK3 m (Nat.le_refl _), at0_swapL (by rw [Hm.out]; omega) (by rw [Hm.out]; omega)]; unfold swapF; rw [if_pos rfl]
  have Hw := hid (waits_drop hS3 Hm.out (hK3 m (Nat.le_refl _)) hO3)
  have Hh3 : Hid (HeapFrom (rkLt ws) (at0 (q3.take m)) (q3.take m).length 0) := hid (by
    have : (q3.take m).length = m := by simp; omega
    rw [this]
    exact hH3.congr fun k hk => at0_take hk)
  have Hlast := hid hlast
  have Hpp := hid hpp
  have hA3 := hid (hA2.out.go hA3)
  have hm3 := fun x w' => mPop x w'
  clear hdn hM3 hO3 hS3 hH3 hK3 hl3 hpp hlast
  go_wp2_with fail
  refine Hpp.out.mono ?_
  rintro e w4 ⟨rfl, vq4, pl4, hM4, hO4, hA4⟩
  have hfin : RHPop S r vw vp ws q ab m w (.returned (.iface 3 (.int .i64 (at0 q3 m : Nat)))) w4 := ⟨by rw [Hlast.out], vq4, _, pl4, hM4, hO4, Hh3.out, Hw.out, hA3.out.go hA4⟩
  have hfin := hid hfin
  generalize at0 q3 m = z at *
  clear hM4 hO4 hA4 Hpp hm3
  go_wp2_with fail
  go_ret
  exact hfin.out
end Go.Proofs.Ytmimmckhnomcdaa
/- The calls of package rank that make no memory: has, step, setStep, Weight, Decay; Put, Pop. -/
namespace Go.Proofs.Ytmimmckhnomcdaa
open Go.RowKit Big

def RkAt (w : World) (S : Nat → Prop) (r : Nat) (rk : Rk) : Prop := (∃ vw vq vp q pl ab, RkM w S r vw vq vp rk.ws q pl ab ∧ RkGood rk q pl ∧ ab + 1 = rk.st) ∧ ∀ k, S k → k < w.heap.size
theorem RkAt.below {w w' : World} {S : Nat → Prop} {r : Nat} {rk : Rk} (h : RkAt w S r rk) (hb : Below w.heap.size w w') : RkAt w' S r rk := by
  obtain ⟨⟨vw, vq, vp, q, pl, ab, H, hg, ha⟩, hS⟩ := h
  exact ⟨⟨vw, vq, vp, q, pl, ab, H.below hb, hg, ha⟩, fun k hk => Nat.lt_of_lt_of_le (hS k hk) hb.size⟩
theorem RkAt.apart {w w' : World} {S T : Nat → Prop} {r : Nat} {rk : Rk} (h : RkAt w S r rk) (hb : Apart T w w') (hn : ∀ k, S k → ¬ T k) : RkAt w' S r rk := by
  obtain ⟨⟨vw, vq, vp, q, pl, ab, H, hg, ha⟩, hS⟩ := h
  exact ⟨⟨vw, vq, vp, q, pl, ab, H.stays (fun _ h => h) (fun k hk hl => hb.block k hl (hn k hk)), hg, ha⟩, fun k hk => Nat.lt_of_lt_of_le (hS k hk) hb.size⟩
def RRk (S : Nat → Prop) (r : Nat) (rk : Rk) (w : World) (e : Ending) (w' : World) : Prop := e = .returned (.tuple #[]) ∧ ∃ S', RkAt w' S' r rk ∧ (∀ k, S' k → S k ∨ w.heap.size ≤ k) ∧ Apart S w w'
def RSame1 (v : Value) (w : World) (e : Ending) (w' : World) : Prop := e = .returned v ∧ w = w'
set_option maxRecDepth 100000 in
set_option maxHeartbeats 1600000 in
theorem has_any {w : World} {S : Nat → Prop} {r : Nat} {rk : Rk} {vw vq vp : Value} {q pl : List Nat} {ab : Nat} (H : RkM w S r vw vq vp rk.ws q pl ab) (v : Int) :
    Calls Try.prog 23 #[.pointer (some ⟨r, 0, none⟩), .int .i64 v] w (RSame1 (.bool (rkHas rk v)) w) := by
  obtain ⟨⟨c0, -, -, -⟩, -⟩ := H.four
  obtain ⟨p, c, rfl⟩ := ownsRow_shape H.weights
  unfold rkHas
  by_cases h1 : 1 ≤ v
  · have t1 : decide (1 ≤ v) = true := decide_eq_true h1
    rw [t1, Bool.true_and]
    generalize rk.ws.length = N at *
    generalize hb : decide (v ≤ (N : Int)) = b
    have Hb := hid hb
    clear hb H
    go_enter Try.func23, Try.ntmps23
    go_wp2
    go_ret
    exact ⟨by rw [← Hb.out]; rfl, rfl⟩
  · have t1 : decide (1 ≤ v) = false := decide_eq_false h1
    rw [t1, Bool.false_and]
    clear H
    go_enter Try.func23, Try.ntmps23
    go_wp2
    go_ret
    exact ⟨rfl, rfl⟩
set_option maxRecDepth 100000 in
set_option maxHeartbeats 1600000 in
theorem step_any {w : World} {S : Nat → Prop} {r : Nat} {vw vq vp : Value} {ws q pl : List Nat} {ab : Nat} (H : RkM w S r vw vq vp ws q pl ab) (h9 : ab < 576460752303423488) :
    Calls Try.prog 24 #[.pointer (some ⟨r, 0, none⟩)] w (RSame1 (.int .u64 (ab + 1 : Nat)) w) := by
  obtain ⟨⟨-, -, -, c3⟩, -⟩ := H.four
  have e1 : IntKind.u64.wrap (1 + (ab : Int)) = ((ab + 1 : Nat) : Int) := by rw [IntWalk.u64_in _ (by omega)]; omega
  generalize hx : ((ab + 1 : Nat) : Int) = x at *
  clear H hx h9
  go_enter Try.func24, Try.ntmps24
  go_wp2
  go_ret
  exact ⟨rfl, rfl⟩
set_option maxRecDepth 100000 in
set_option maxHeartbeats 1600000 in
theorem setStep_any {w : World} {S : Nat → Prop} {r : Nat} {vw vq vp : Value} {ws q pl : List Nat} {ab : Nat} (H : RkM w S r vw vq vp ws q pl ab) (x : Nat) (h9 : x < 576460752303423488) :
    Calls Try.prog 28 #[.pointer (some ⟨r, 0, none⟩), .int .u64 (x + 1 : Nat)] w fun e w' => e = .returned (.tuple #[]) ∧ RkM w' S r vw vq vp ws q pl x ∧ Apart S w w' := by
  obtain ⟨⟨-, -, -, c3⟩, yf⟩ := H.four
  have f3 := yf 3
  have e1 : IntKind.u64.wrap (((x + 1 : Nat) : Int) - 1) = (x : Nat) := by rw [IntWalk.u64_in _ (by omega)]; omega
  have H2 := hid (H.newAb x)
  have A2 := hid ((Apart.refl S w).setCell (p := ⟨r, 3, none⟩) H.own (.int .u64 (x : Nat)))
  generalize ((x + 1 : Nat) : Int) = y at *
  clear H yf h9
  go_enter Try.func28, Try.ntmps28
  go_wp2
  go_end0
  exact ⟨rfl, H2.out, A2.out⟩
set_option maxRecDepth 100000 in
set_option maxHeartbeats 1600000 in
theorem Weight_any {w : World} {S : Nat → Prop} {r : Nat} {rk : Rk} (h : RkAt w S r rk) (v : Int) :
    Calls Try.prog 21 #[.pointer (some ⟨r, 0, none⟩), .int .i64 v] w (RSame1 (.int .u64 (rkWeight rk v : Nat)) w) := by
  obtain ⟨⟨vw, vq, vp, q, pl, ab, H, hg, ha⟩, -⟩ := h
  have hh := has_any H v
  unfold rkWeight
  cases hb : rkHas rk v
  · rw [hb] at hh
    have Hh := hid hh
    clear H hg ha hh hb
    go_enter Try.func21, Try.ntmps21
    go_wp2_with fail
    refine Hh.out.mono ?_
    rintro e w1 ⟨rfl, rfl⟩
    go_wp2
    go_ret
    exact ⟨rfl, rfl⟩
  · rw [hb] at hh
    have hb' := hb
    simp only [rkHas, Bool.and_eq_true, decide_eq_true_eq] at hb'
    have hf := hg.few
    obtain ⟨k, rfl⟩ : ∃ k : Nat, v = ((k + 1 : Nat) : Int) := ⟨v.toNat - 1, by omega⟩
    have hk : k < rk.ws.length := by omega
    have hk9 : k ≤ 1000000 := by omega
    obtain ⟨⟨c0, -, -, -⟩, -⟩ := H.four
    obtain ⟨gw, kw, rfl, hw1, hw2, -, mw, -⟩ := H.weights.cells0 (by omega)
    have m1 := mw k hk
    have e1 : IntKind.i64.wrap (((k + 1 : Nat) : Int) - 1) = (k : Nat) := by rw [IntWalk.i64_in _ (by omega)]; omega
    have e2 : (((k + 1 : Nat) : Int)).toNat - 1 = k := by omega
    rw [if_pos rfl, e2]
    have Hh := hid hh
    generalize at0 rk.ws k = x at *
    generalize rk.ws.length = N at *
    clear H hg ha hh hb hb' mw hf e2
    go_enter Try.func21, Try.ntmps21
    go_wp2_with fail
    refine Hh.out.mono ?_
    rintro e w1 ⟨rfl, rfl⟩
    go_wp2
    go_ret
    exact ⟨rfl, rfl⟩
set_option maxRecDepth 100000 in
set_option maxHeartbeats 1600000 in
theorem Decay_any {w : World} {S : Nat → Prop} {r : Nat} {rk : Rk} (h : RkAt w S r rk) :
    Calls Try.prog 15 #[.pointer (some ⟨r, 0, none⟩)] w (RRk S r (rkDecay rk) w) := by
  obtain ⟨⟨vw, vq, vp, q, pl, ab, H, hg, ha⟩, hS⟩ := h
  have hst := hg.step
  have Hg := hid hg.decay
  have Hst := hid (step_any H (by omega))
  obtain ⟨x, hx⟩ : ∃ x, x + 1 = min (rk.st + rk.st / 16 + 1) 576460752303423488 := ⟨min (rk.st + rk.st / 16 + 1) 576460752303423488 - 1, by omega⟩
  have Hset := hid (setStep_any H x (by omega))
  have Hx := hid hx
  rw [ha] at Hst
  have hs9 : rk.st ≤ 576460752303423488 := hst.2
  have HS := hid hS
  generalize hs : rk.st = s at *
  have hs := hid hs
  clear H hg ha hst hx hS
  go_enter Try.func15, Try.ntmps15
  go_wp2_with fail
  refine Hst.out.mono ?_
  rintro e w1 ⟨rfl, rfl⟩
  clear Hst
  go_wp2_with fail
  all_goals
    first
    | (have e : ((s : Int) + (s : Int) / 16 + 1) = ((x + 1 : Nat) : Int) := by have := Hx.out; omega
       rw [e]; clear e)
    | (have e : (576460752303423488 : Int) = ((x + 1 : Nat) : Int) := by have := Hx.out; omega
       rw [e]; clear e)
    refine Hset.out.mono ?_
    rintro e w2 ⟨rfl, hM2, hA2⟩
    have hM2 := hid hM2; have hA2 := hid hA2
    go_wp2_with fail
    go_end0
    exact ⟨rfl, S, ⟨⟨vw, vq, vp, q, pl, x, hM2.out, Hg.out, by rw [Hx.out]; unfold rkDecay; rw [hs.out]⟩, fun k hk => Nat.lt_of_lt_of_le (HS.out k hk) hA2.out.size⟩, fun k hk => .inl hk, hA2.out⟩
end Go.Proofs.Ytmimmckhnomcdaa
/- rank.Put, rank.Pop. -/
namespace Go.Proofs.Ytmimmckhnomcdaa
open Go.RowKit Big

theorem rkHas_mk {rk : Rk} {v : Int} (h : rkHas rk v = true) : ∃ k : Nat, v = ((k + 1 : Nat) : Int) ∧ k < rk.ws.length ∧ v.toNat - 1 = k := by
  simp only [rkHas, Bool.and_eq_true, decide_eq_true_eq] at h
  exact ⟨v.toNat - 1, by omega, by omega, rfl⟩
set_option maxRecDepth 100000 in
set_option maxHeartbeats 3200000 in
theorem Put_any {w : World} {S : Nat → Prop} {r : Nat} {rk : Rk} (h : RkAt w S r rk) (v : Int) :
    Calls Try.prog 17 #[.pointer (some ⟨r, 0, none⟩), .int .i64 v] w (RRk S r (rkPut rk v) w) := by
  have h0 := h
  obtain ⟨⟨vw, vq, vp, q, pl, ab, H, hg, ha⟩, hS⟩ := h
  have hh := has_any H v
  unfold rkPut
  cases hb : rkHas rk v
  · rw [hb] at hh
    have Hh := hid hh; have H0 := hid h0
    clear H hg ha hh hb h0 hS
    go_enter Try.func17, Try.ntmps17
    go_wp2_with fail
    refine Hh.out.mono ?_
    rintro e w1 ⟨rfl, rfl⟩
    go_wp2_with fail
    go_end0
    exact ⟨rfl, S, H0.out, fun k hk => .inl hk, Apart.refl _ _⟩
  · rw [hb] at hh
    have hf := hg.few
    obtain ⟨k, rfl, hk, e2⟩ := rkHas_mk hb
    have hk9 : k ≤ 1000000 := by omega
    rw [if_pos rfl, e2]
    have hlp := hg.ok.len
    obtain ⟨⟨-, -, c2, -⟩, -⟩ := H.four
    obtain ⟨gp, kp, rfl, hp1, hp2, -, mp, -⟩ := H.places.cells0 (by omega)
    have m1 := mp k (by omega)
    have hkp : k < pl.length := by omega
    have Hh := hid hh; have H0 := hid h0
    by_cases hz : at0 pl k = 0
    · have Hc := HPush_any H (k + 1) (by omega) (by omega) (by rw [Nat.add_sub_cancel]; exact hz) hg.ok hg.few hg.heap
      rw [hz] at m1
      have Hc := hid Hc; have Hg := hid hg; have Hk := hid hk; have Ha := hid ha; have HS := hid hS
      generalize pl.length = P at *
      clear H hg ha hh hb mp hf e2 hz h0 hS hlp hk
      go_enter Try.func17, Try.ntmps17
      go_wp2_with fail
      refine Hh.out.mono ?_
      rintro e w1 ⟨rfl, rfl⟩
      go_wp2_with fail
      refine Hc.out.mono ?_
      rintro e w2 ⟨rfl, S2, vq2, q2, pl2, hM, hO, hs, hH, hS2, hA⟩
      have hfin : RRk S r (putAt rk k) w (.returned (.tuple #[])) w2 := ⟨rfl, S2, ⟨⟨vw, vq2, _, q2, pl2, ab, hM, Hg.out.put Hk.out hs hO hH, Ha.out⟩, fun i hi => (hS2 i hi).2⟩, fun i hi => (hS2 i hi).1, hA⟩
      have hfin := hid hfin
      clear hM hO hs hH hS2 hA
      go_wp2_with fail
      go_end0
      exact hfin.out
    · have Hs := hid (hg.put_same hk hz)
      have t1 : (((at0 pl k : Nat) : Int) == 0) = false := by simp; exact hz
      generalize pl.length = P at *
      generalize at0 pl k = z at *
      clear H hg ha hh hb mp hf e2 hz h0 hS hlp hk
      go_enter Try.func17, Try.ntmps17
      go_wp2_with fail
      refine Hh.out.mono ?_
      rintro e w1 ⟨rfl, rfl⟩
      go_wp2_with fail
      go_end0
      exact ⟨rfl, S, by rw [Hs.out]; exact H0.out, fun k hk => .inl hk, Apart.refl _ _⟩

def RPop (S : Nat → Prop) (r : Nat) (rk : Rk) (w : World) (e : Ending) (w' : World) : Prop :=
  (e = .returned (.tuple #[.int .i64 0, .bool false]) ∧ w = w' ∧ ∀ u, 1 ≤ u → u ≤ rk.ws.length → wt0 rk.wt (u - 1) = false) ∨
  (∃ v : Nat, e = .returned (.tuple #[.int .i64 (v : Nat), .bool true]) ∧ Next rk v ∧ RkAt w' S r (popAt rk (v - 1)) ∧ Apart S w w')
set_option maxRecDepth 100000 in
set_option maxHeartbeats 3200000 in
theorem Pop_any {w : World} {S : Nat → Prop} {r : Nat} {rk : Rk} (h : RkAt w S r rk) :
    Calls Try.prog 19 #[.pointer (some ⟨r, 0, none⟩)] w (RPop S r rk w) := by
  have h0 := h
  obtain ⟨⟨vw, vq, vp, q, pl, ab, H, hg, ha⟩, hS⟩ := h
  obtain ⟨⟨-, c1, -, -⟩, -⟩ := H.four
  obtain ⟨pq, kq, rfl⟩ := H.rowU
  by_cases hq : q.length = 0
  · rw [hq] at c1
    have Hn := hid (hg.none hq)
    clear H hg ha hS h0 hq
    go_enter Try.func19, Try.ntmps19
    go_wp2
    go_ret2
    exact .inl ⟨rfl, rfl, Hn.out⟩
  · obtain ⟨m, hm⟩ : ∃ m, q.length = m + 1 := ⟨q.length - 1, by omega⟩
    have Hc := hid (HPop_any H m hm hg.ok hg.few hg.heap)
    have Hnx := hid (hg.next (by omega))
    have Hg := hid hg; have Ha := hid ha; have HS := hid hS
    rw [hm] at c1
    have t1 : (((m + 1 : Nat) : Int) == 0) = false := by simp; omega
    have hm9 : m ≤ 1000000 := by have := hg.ok.few; have := hg.few; omega
    clear H hg ha hS h0 hq hm
    have hta := fun (z : Int) w' => assertInt z w'
    obtain ⟨z, hz⟩ : ∃ z, z = at0 q 0 := ⟨_, rfl⟩
    have Hz := hid hz
    rw [← hz] at Hnx
    clear hz
    go_enter Try.func19, Try.ntmps19
    go_wp2_with fail
    refine Hc.out.mono ?_
    rintro e w2 ⟨rfl, vq2, q2, pl2, hM, hO, hH, hW, hA⟩
    rw [← Hz.out] at hW ⊢
    have hfin : RPop S r rk w (.returned (.tuple #[.int .i64 (z : Nat), .bool true])) w2 := .inr ⟨z, rfl, Hnx.out,
      ⟨⟨vw, vq2, _, q2, pl2, ab, hM, Hg.out.pop Hnx.out.pos Hnx.out.le hO hH hW, Ha.out⟩, fun k hk => Nat.lt_of_lt_of_le (HS.out k hk) hA.size⟩, hA⟩
    have hfin := hid hfin
    clear hM hO hH hW hA Hc
    go_wp2_with fail
    go_ret2
    exact hfin.out
end Go.Proofs.Ytmimmckhnomcdaa
/- rank.lighten. -/
namespace Go.Proofs.Ytmimmckhnomcdaa
open Go.RowKit Big

theorem eq_of_at0 {l m : List Nat} (hl : l.length = m.length) (h : ∀ i, i < l.length → at0 l i = at0 m i) : l = m := by
  apply List.ext_getElem hl
  intro i h1 h2
  have := h i h1
  rwa [at0_eq h1, at0_eq h2] at this
def RLight (S : Nat → Prop) (r : Nat) (vw vq vp : Value) (ws q : List Nat) (ab : Nat) (w : World) (e : Ending) (w' : World) : Prop :=
  e = .returned (.tuple #[]) ∧ ∃ q' pl ab', RkM w' S r vw vq vp (ws.map (· / 1073741824)) q' pl ab' ∧ RkOk ws.length q' pl ∧ Same q q' ∧ HeapFrom (rkLt (ws.map (· / 1073741824))) (at0 q') q'.length 0 ∧ ab' + 1 = max ((ab + 1) / 1073741824) 1 ∧ Apart S w w'
set_option maxRecDepth 100000 in
set_option maxHeartbeats 6400000 in
theorem lighten_any {w : World} {S : Nat → Prop} {r : Nat} {vw vq vp : Value} {ws q pl : List Nat} {ab : Nat} (H : RkM w S r vw vq vp ws q pl ab) (ho : RkOk ws.length q pl) (hn : ws.length ≤ 1000000) (h9 : ab < 576460752303423488)
    (hx9 : ∀ i, at0 ws i < 2305843009213693952) : Calls Try.prog 25 #[.pointer (some ⟨r, 0, none⟩)] w (RLight S r vw vq vp ws q ab w) := by
  obtain ⟨pw, kw, rfl⟩ := ownsRow_shape H.weights
  obtain ⟨⟨c0, -, -, -⟩, -⟩ := H.four
  have HH := hid H; have Ho := hid ho; have Hn := hid hn; have H9 := hid h9; have Hx9 := hid hx9
  obtain ⟨N, hN⟩ : ∃ N, N = ws.length := ⟨_, rfl⟩
  have HN := hid hN
  rw [← hN] at c0 HH hn ⊢
  clear H ho h9 hx9 hN
  go_enter Try.func25, Try.ntmps25
  go_wp2_with fail
  clear c0
  go_loopw [8] (fun vk wr => ∃ (k : Nat) (L : List Nat), vk = .int .i64 (k : Nat) ∧ k ≤ N ∧ Hid (L.length = N ∧ ∀ i, at0 L i = if i < k then at0 ws i / 1073741824 else at0 ws i) ∧ Hid (RkM wr S r (.slice pw N kw) vq vp L q pl ab) ∧ Hid (Apart S w wr)) (fun vk _ => N - (intOf vk).toNat)
  case atStart => exact ⟨0, ws, rfl, Nat.zero_le _, hid ⟨HN.out.symm, fun i => by rw [if_neg (by omega)]⟩, HH, hid (Apart.refl _ _)⟩
  case round =>
    obtain ⟨k, L, rfl, hk, hL, hM, hA⟩ := hrel
    by_cases hkn : k < N
    · obtain ⟨⟨c0, -, -, -⟩, -⟩ := hM.out.four
      obtain ⟨gw, kw', e0, hw1, hw2, -, mw, fw⟩ := hM.out.weights.cells0 (by rw [hL.out.1]; omega)
      injection e0 with e1 e2 e3
      subst e1; subst e3
      have m1 := mw k (by rw [hL.out.1]; exact hkn)
      have f1 := fw k
      have hx := Hx9.out k
      have hLk : at0 L k = at0 ws k := by rw [hL.out.2, if_neg (by omega)]
      rw [hLk] at m1
      have H2 := hM.out.setW k (at0 ws k / 1073741824) (by rw [hL.out.1]; exact hkn)
      have A2 := hid (hA.out.setCell (p := ⟨gw, k, none⟩) (hM.out.weightsIn gw rfl) (.int .u64 (at0 ws k / 1073741824 : Nat)))
      have hL2 : Hid ((L.set k (at0 ws k / 1073741824)).length = N ∧ ∀ i, at0 (L.set k (at0 ws k / 1073741824)) i = if i < k + 1 then at0 ws i / 1073741824 else at0 ws i) := hid ⟨by rw [List.length_set]; exact hL.out.1, fun i => by
        rw [at0_set _ _ _ _ (by rw [hL.out.1]; exact hkn), hL.out.2 i]
        by_cases e : i = k
        · subst e; rw [if_pos rfl, if_pos (by omega)]
        · rw [if_neg e]
          by_cases e2 : i < k
          · rw [if_pos e2, if_pos (by omega)]
          · rw [if_neg e2, if_neg (by omega)]⟩
      have H2 := hid H2
      generalize at0 ws k = x at *
      clear e2 mw fw hLk hM hA hL
      go_wp2_with fail
      go_roundw
      case rel => exact ⟨k + 1, _, by go_num, by omega, hL2, H2, A2⟩
      case measure => simp [intOf]; omega
    · have hkN : k = N := by omega
      have hLeq : L = ws.map (· / 1073741824) := eq_of_at0 (by rw [hL.out.1, List.length_map]; exact HN.out) (fun i hi => by
        rw [hL.out.2 i, at0_map_div, if_pos (by rw [hL.out.1] at hi; omega)])
      have hM := hM.out
      rw [hLeq] at hM
      have Hst := hid (step_any hM H9.out)
      obtain ⟨x, hx⟩ : ∃ x, x + 1 = max ((ab + 1) / 1073741824) 1 := ⟨max ((ab + 1) / 1073741824) 1 - 1, by omega⟩
      have Hset := hid (setStep_any hM x (by have := H9.out; omega))
      have Hx := hid hx
      have hs9 : ab + 1 ≤ 576460752303423488 := H9.out
      have hM := hid hM
      generalize hs : ab + 1 = s at *
      have hs := hid hs
      clear hL hx hLeq
      subst hkN
      go_wp2_with fail
      refine Hst.out.mono ?_
      rintro e w1 ⟨rfl, rfl⟩
      clear Hst
      go_wp2_with fail
      all_goals
        first
        | (have e : ((s : Int) / 1073741824) = ((x + 1 : Nat) : Int) := by have := Hx.out; omega
           rw [e]; clear e)
        | (have e : (1 : Int) = ((x + 1 : Nat) : Int) := by have := Hx.out; omega
           rw [e]; clear e)
        refine Hset.out.mono ?_
        rintro e w2 ⟨rfl, hM2, hA2⟩
        have Hi := hid (HInit_any hM2 (q := q) (pl := pl) (by rw [List.length_map]; exact Ho.out) (by rw [List.length_map]; exact Hn.out))
        have hA2 := hid (hA.out.go hA2)
        clear hM2
        go_wp2_with fail
        refine Hi.out.mono ?_
        rintro e w3 ⟨rfl, q3, pl3, hM3, hO3, hS3, hH3, hA3⟩
        rw [List.length_map] at hO3
        have hfin : Hid (RLight S r (.slice pw k kw) vq vp ws q ab w (.returned (.tuple #[])) w3) := hid ⟨rfl, q3, pl3, x, hM3, hO3, hS3, hH3, by rw [Hx.out, hs.out], hA2.out.go hA3⟩
        clear hM3 hO3 hS3 hH3 hA3 Hi
        go_wp2_with fail
        go_end0
        exact hfin.out
end Go.Proofs.Ytmimmckhnomcdaa
/- rank.Bump. -/
namespace Go.Proofs.Ytmimmckhnomcdaa
open Go.RowKit Big

set_option maxRecDepth 100000 in
set_option maxHeartbeats 6400000 in
theorem Bump_any {w : World} {S : Nat → Prop} {r : Nat} {rk : Rk} (h : RkAt w S r rk) (v : Int) :
    Calls Try.prog 13 #[.pointer (some ⟨r, 0, none⟩), .int .i64 v] w (RRk S r (rkBump rk v) w) := by
  have h0 := h
  obtain ⟨⟨vw, vq, vp, q, pl, ab, H, hg, ha⟩, hS⟩ := h
  have hh := has_any H v
  unfold rkBump
  cases hb : rkHas rk v
  · rw [hb] at hh
    have Hh := hid hh; have H0 := hid h0
    clear H hg ha hh hb h0 hS
    go_enter Try.func13, Try.ntmps13
    go_wp2_with fail
    refine Hh.out.mono ?_
    rintro e w1 ⟨rfl, rfl⟩
    go_wp2_with fail
    go_end0
    exact ⟨rfl, S, H0.out, fun k hk => .inl hk, Apart.refl _ _⟩
  · rw [hb] at hh
    have hf := hg.few
    obtain ⟨k, rfl, hk, e2⟩ := rkHas_mk hb
    have hk9 : k ≤ 1000000 := by omega
    rw [if_pos rfl, e2]
    have hlp := hg.ok.len
    obtain ⟨gw, kw, rfl, hw1, hw2, -, mw, fw⟩ := H.weights.cells0 (by omega)
    have hst := hg.step
    have hx9 := hg.small k
    obtain ⟨N, hN⟩ : ∃ N, N = rk.ws.length := ⟨_, rfl⟩
    rw [← hN] at H
    have hstep := fun w' (hb : Below w.heap.size w w') => step_any (H.below hb) (by omega)
    have Hh := hid hh; have HS0 := hid hS; have HH := hid H; have Hg := hid hg; have Ha := hid ha; have Hk := hid hk
    obtain ⟨s, hs⟩ : ∃ s, s = rk.st := ⟨_, rfl⟩
    obtain ⟨x, hx⟩ : ∃ x, x = at0 rk.ws k := ⟨_, rfl⟩
    rw [ha, ← hs] at hstep
    rw [← hx] at hx9; rw [← hs] at hst
    have hst2 := hst.2
    have Hstep := hid hstep
    have hsum : Hid (IntKind.u64.wrap ((x : Int) + (s : Int)) = ((x + s : Nat) : Int)) := hid (by rw [IntWalk.u64_in _ (by omega)]; omega)
    have hpk : Hid (IntKind.i64.wrap (k : Int) = (k : Nat)) := hid (by rw [IntWalk.i64_in _ (by omega)])
    have HS : Hid (∀ w', Below w.heap.size w w' → w'.cell? ⟨r, 0, none⟩ = some (.slice (some ⟨gw, 0, none⟩) N kw) ∧ w'.cell? ⟨gw, k, none⟩ = some (.int .u64 (x : Nat)) ∧ True) := hid fun w' hb => by
      have H' := H.below hb
      rw [hx]
      exact ⟨H'.four.1.1, H'.weights.cellL k hk, trivial⟩
    have Hs := hid hs; have Hx := hid hx; have HN := hid hN
    rw [← hN] at hw1 hk
    clear H hg ha hh hb mw fw hf e2 h0 hS hlp hstep hs hx hN hst
    go_enter Try.func13, Try.ntmps13
    go_wp2_with fail
    refine Hh.out.mono ?_
    rintro e w1 ⟨rfl, rfl⟩
    clear Hh
    go_upto_region 1 with fail
    refine wp_region_facts (w0 := w) 12 1 [9, 10, 11, 12, 13, 14, 15, 16, 17, 18, 19, 20] [undef, undef, undef, undef, undef, undef, undef, undef, undef, undef, undef, undef]
      (fun i => match i with | 0 => eqD (.pointer (some ⟨r, 0, none⟩)) | 1 => eqD (.pointer (some ⟨r, 0, none⟩)) | 2 => eqD (.pointer (some ⟨r, 0, none⟩)) | 3 => eqD (.slice (some ⟨gw, 0, none⟩) N kw) | 4 => eqD (.int .i64 (k + 1 : Nat)) | 5 => eqD (.int .i64 (k : Nat)) | 6 => eqD (.pointer (some ⟨gw, k, none⟩)) | 7 => eqD (.int .u64 (x : Nat)) | 8 => eqD (.pointer (some ⟨r, 0, none⟩)) | 9 => eqD (.int .u64 (s : Nat)) | 10 => eqD (.int .u64 (x + s : Nat)) | _ => eqD (.pointer (some ⟨gw, k, none⟩))) [] (by kernel_rfl) (by kernel_rfl) (by kernel_rfl) (by kernel_rfl) (by decide) rfl (by kernel_rfl) rfl (by simp) ?he1 ?_ ?_ ?_
    case he1 => simp only [putAll, Act.put, List.setIfInBounds_toArray, List.set_cons_zero, List.set_cons_succ]
    · intro i hi; simp at hi
    · intro i o hi ho vs wx hvl hb hdep K hK
      have hvs := vlen12 hvl
      obtain ⟨s9, s10, s11, s12, s13, s14, s15, s16, s17, s18, s19, s20, rfl⟩ := hvs
      clear hvl
      have hk := HS.out wx hb
      go_split_ands
      rcases i with _ | _ | _ | _ | _ | _ | _ | _ | _ | _ | _ | _ | i
      all_goals (simp only [List.getElem?_toArray, List.getElem?_cons_zero, List.getElem?_cons_succ, Option.some.injEq] at ho)
      all_goals try (subst ho)
      all_goals try simp only [putAll, Act.put, List.setIfInBounds_toArray, List.set_cons_zero, List.set_cons_succ]
      · go_simp
        have hK' := hK.out
        simp only [putAll, Act.put, List.setIfInBounds_toArray, List.set_cons_zero, List.set_cons_succ] at hK'
        exact hK' _ _ rfl (Below.refl _ _) (by simp)
      · have e0 : s9 = _ := hdep ⟨0, .data⟩ (by simp) rfl
        have e0 := e0.symm
        subst e0
        go_simp
        have hK' := hK.out
        simp only [putAll, Act.put, List.setIfInBounds_toArray, List.set_cons_zero, List.set_cons_succ] at hK'
        exact hK' _ _ rfl (Below.refl _ _) (by simp)
      · have e1 : s10 = _ := hdep ⟨1, .data⟩ (by simp) rfl
        have e1 := e1.symm
        subst e1
        go_simp
        have hK' := hK.out
        simp only [putAll, Act.put, List.setIfInBounds_toArray, List.set_cons_zero, List.set_cons_succ] at hK'
        exact hK' _ _ rfl (Below.refl _ _) (by simp)
      · have e2 : s11 = _ := hdep ⟨2, .data⟩ (by simp) rfl
        have e2 := e2.symm
        subst e2
        go_simp
        have hK' := hK.out
        simp only [putAll, Act.put, List.setIfInBounds_toArray, List.set_cons_zero, List.set_cons_succ] at hK'
        exact hK' _ _ rfl (Below.refl _ _) (by simp)
      · go_simp
        have hK' := hK.out
        simp only [putAll, Act.put, List.setIfInBounds_toArray, List.set_cons_zero, List.set_cons_succ] at hK'
        exact hK' _ _ rfl (Below.refl _ _) (by simp)
      · have e4 : s13 = _ := hdep ⟨4, .data⟩ (by simp) rfl
        have e4 := e4.symm
        subst e4
        go_simp
        have hK' := hK.out
        simp only [putAll, Act.put, List.setIfInBounds_toArray, List.set_cons_zero, List.set_cons_succ] at hK'
        exact hK' _ _ (by rw [hpk.out]; exact rfl) (Below.refl _ _) (by simp)
      · have e3 : s12 = _ := hdep ⟨3, .data⟩ (by simp) rfl
        have e3 := e3.symm
        subst e3
        have e5 : s14 = _ := hdep ⟨5, .data⟩ (by simp) rfl
        have e5 := e5.symm
        subst e5
        go_simp
        have hK' := hK.out
        simp only [putAll, Act.put, List.setIfInBounds_toArray, List.set_cons_zero, List.set_cons_succ] at hK'
        exact hK' _ _ rfl (Below.refl _ _) (by simp)
      · have e6 : s15 = _ := hdep ⟨6, .data⟩ (by simp) rfl
        have e6 := e6.symm
        subst e6
        go_simp
        have hK' := hK.out
        simp only [putAll, Act.put, List.setIfInBounds_toArray, List.set_cons_zero, List.set_cons_succ] at hK'
        exact hK' _ _ rfl (Below.refl _ _) (by simp)
      · go_simp
        have hK' := hK.out
        simp only [putAll, Act.put, List.setIfInBounds_toArray, List.set_cons_zero, List.set_cons_succ] at hK'
        exact hK' _ _ rfl (Below.refl _ _) (by simp)
      · have e8 : s17 = _ := hdep ⟨8, .data⟩ (by simp) rfl
        have e8 := e8.symm
        subst e8
        go_simp
        go_simp
        refine (Hstep.out _ hb).mono ?_
        rintro e wy ⟨rfl, rfl⟩
        go_wp2_with fail
        have hK' := hK.out
        simp only [putAll, Act.put, List.setIfInBounds_toArray, List.set_cons_zero, List.set_cons_succ] at hK'
        exact hK' _ _ rfl (Below.refl _ _) (by simp)
      · have e7 : s16 = _ := hdep ⟨7, .data⟩ (by simp) rfl
        have e7 := e7.symm
        subst e7
        have e9 : s18 = _ := hdep ⟨9, .data⟩ (by simp) rfl
        have e9 := e9.symm
        subst e9
        go_simp
        have hK' := hK.out
        simp only [putAll, Act.put, List.setIfInBounds_toArray, List.set_cons_zero, List.set_cons_succ] at hK'
        exact hK' _ _ (by rw [hsum.out]; exact rfl) (Below.refl _ _) (by simp)
      · have e3 : s12 = _ := hdep ⟨3, .data⟩ (by simp) rfl
        have e3 := e3.symm
        subst e3
        have e5 : s14 = _ := hdep ⟨5, .data⟩ (by simp) rfl
        have e5 := e5.symm
        subst e5
        go_simp
        have hK' := hK.out
        simp only [putAll, Act.put, List.setIfInBounds_toArray, List.set_cons_zero, List.set_cons_succ] at hK'
        exact hK' _ _ rfl (Below.refl _ _) (by simp)
      · omega
    · intro vs wx hvl hb hf hdist
      have hvs := vlen12 hvl
      obtain ⟨s9, s10, s11, s12, s13, s14, s15, s16, s17, s18, s19, s20, rfl⟩ := hvs
      have f10 : s19 = .int .u64 (x + s : Nat) := hf 10 (by decide)
      have f11 : s20 = .pointer (some ⟨gw, k, none⟩) := hf 11 (by decide)
      subst f10 f11
      clear hf hdist hvl
      have H3 := HH.out.below hb
      have hkl : k < rk.ws.length := Hk.out
      have k1 := H3.weights.frozen k
      have m1 := H3.weights.cellL k hkl
      generalize at0 rk.ws k = xx at m1
      have H4 := H3.setW k (x + s) hkl
      have A4 := ((Apart.of_below hb).setCell (p := ⟨gw, k, none⟩) (H3.weightsIn gw rfl) (.int .u64 (x + s : Nat)))
      have heq : rk.ws.set k (x + s) = (addAt rk k).ws := by rw [Hx.out, Hs.out]; rfl
      have hci : ((x + s : Nat) : Int) = (x : Int) + (s : Int) := by omega
      rw [heq] at H4
      rw [hci] at H4 A4
      have H4 := hid H4; have A4 := hid A4
      clear H3 HS HH Hstep hkl hci heq
      refine wpAny_one (i := 12) (by kernel_rfl) rfl ?_
      intro K hK
      simp only [putAll, Act.put, List.setIfInBounds_toArray, List.set_cons_zero, List.set_cons_succ]
      have hK' := hK.out
      go_simp
      apply hK'
      clear hK hK' k1 m1
      refine wpAny_done (by kernel_rfl) ?_ _
      try simp only [putAll, Act.put, List.setIfInBounds_toArray, List.set_cons_zero, List.set_cons_succ]
      have H4 := H4.out; have A4 := A4.out
      generalize hW4 : wx.setCell ⟨gw, k, none⟩ (.int .u64 ((x : Int) + (s : Int))) = W4 at *
      clear hW4 hb hsum hpk
      obtain ⟨⟨c0, -, c2, -⟩, -⟩ := H4.four
      have hl4 : (addAt rk k).ws.length = rk.ws.length := by simp [addAt]
      obtain ⟨gp, kp, rfl, hp1, hp2, -, mp, -⟩ := H4.places.cells0 (by have := Hg.out.ok.len; have := Hk.out; omega)
      have m1 := mp k (by have := Hg.out.ok.len; have := Hk.out; omega)
      have m2 := H4.weights.cellL k (by rw [hl4]; exact Hk.out)
      have hax : at0 (addAt rk k).ws k = x + s := by
        show at0 (rk.ws.set k _) k = _
        rw [at0_set _ _ _ _ Hk.out, if_pos rfl, Hx.out, Hs.out]
      rw [hax] at m2
      have hkp : k < pl.length := by have := Hg.out.ok.len; have := Hk.out; omega
      have Hl4 := hid hl4
      obtain ⟨y, hy⟩ : ∃ y, y = x + s := ⟨_, rfl⟩
      have hy9 : y ≤ 1729382256910270464 := by omega
      rw [← hy] at m2 hax
      have Hax := hid hax
      have Hy := hid hy
      have hz9 : at0 pl k ≤ 1000000 := by
        rcases Hg.out.ok.away (k + 1) (by omega) Hk.out with h | ⟨h, -⟩
        · rw [Nat.add_sub_cancel] at h; omega
        · rw [Nat.add_sub_cancel] at h; have := Hg.out.ok.few; have := Hg.out.few; omega
      obtain ⟨z, hz⟩ : ∃ z, z = at0 pl k := ⟨_, rfl⟩
      rw [← hz] at m1 hz9
      have Hz := hid hz
      have H4 := hid H4; have A4 := hid A4
      have Hbump : Hid (bumpAt rk k = if 1152921504606846976 ≤ y then light (addAt rk k) else addAt rk k) := hid (by unfold bumpAt; rw [Hy.out, Hx.out, Hs.out])
      obtain ⟨P, hP⟩ : ∃ P, P = pl.length := ⟨_, rfl⟩
      rw [← hP] at hkp c2 hp1 H4
      clear hax hy hz hl4 mp hP
      by_cases hv : 1152921504606846976 ≤ y
      · have t1 : (1152921504606846976 : Int) ≤ (y : Int) := by omega
        have Hlit := hid (lighten_any H4.out (by rw [Hl4.out]; exact Hg.out.ok) (by rw [Hl4.out]; exact Hg.out.few) (by have := Hg.out.step; have := Ha.out; omega) (fun i => by
          show at0 (rk.ws.set k _) i < _
          rw [at0_set _ _ _ _ Hk.out]
          have h1 := Hg.out.small i; have h2 := Hg.out.add_small (k := k)
          split <;> omega))
        have Hbump := hid (Hbump.out.trans (if_pos hv))
        clear hv
        go_wp2_with fail
        refine Hlit.out.mono ?_
        rintro e w5 ⟨rfl, q5, pl5, ab5, hM5, hO5, hS5, hH5, ha5, hA5⟩
        rw [Hl4.out] at hO5
        have hfin : RRk S r (bumpAt rk k) w (.returned (.tuple #[])) w5 := by
          rw [Hbump.out]
          exact ⟨rfl, S, ⟨⟨_, _, _, q5, pl5, ab5, hM5, Hg.out.lit Hk.out hS5 hO5 hH5, by rw [ha5, Ha.out]; rfl⟩, fun i hi => Nat.lt_of_lt_of_le (HS0.out i hi) (A4.out.go hA5).size⟩, fun i hi => .inl hi, A4.out.go hA5⟩
        have hfin := hid hfin
        clear hM5 hO5 hS5 hH5 ha5 hA5 Hlit
        go_wp2_with fail
        go_end0
        exact hfin.out
      · have t1 : ¬ ((1152921504606846976 : Int) ≤ (y : Int)) := by omega
        have Hbump := hid (Hbump.out.trans (if_neg hv))
        have Hyl : Hid (at0 rk.ws k + rk.st < 1152921504606846976) := hid (by rw [← Hx.out, ← Hs.out, ← Hy.out]; omega)
        by_cases hz0 : z = 0
        · have hnw : ¬ Waits q (k + 1) := fun h => absurd (show at0 pl k = 0 by rw [← Hz.out]; exact hz0) ((Hg.out.ok.away_iff (by omega) Hk.out).1 h)
          have hheap : HeapFrom (rkLt (addAt rk k).ws) (at0 q) q.length 0 := fun j h0 hj hp =>
            rkLt_add_not Hk.out (Hg.out.ok.here j hj).1 (Hg.out.ok.here _ (by omega)).1 (fun e => hnw ⟨j, hj, e⟩) (Hg.out.heap j h0 hj (Nat.zero_le _))
          have hfin : RRk S r (bumpAt rk k) w (.returned (.tuple #[])) W4 := by
            rw [Hbump.out]
            exact ⟨rfl, S, ⟨⟨_, _, _, q, pl, ab, H4.out, Hg.out.added Hk.out Hyl.out (Same.refl _) Hg.out.ok hheap, Ha.out⟩, fun i hi => Nat.lt_of_lt_of_le (HS0.out i hi) A4.out.size⟩, fun i hi => .inl hi, A4.out⟩
          have hfin := hid hfin
          subst hz0
          clear hv hnw hheap
          go_wp2_with fail
          go_end0
          exact hfin.out
        · obtain ⟨i, hi⟩ : ∃ i, z = i + 1 := ⟨z - 1, by omega⟩
          subst hi
          have hiq : i < q.length ∧ at0 q i = k + 1 := by
            rcases Hg.out.ok.away (k + 1) (by omega) Hk.out with h | ⟨h, h2⟩
            · rw [Nat.add_sub_cancel, ← Hz.out] at h; omega
            · rw [Nat.add_sub_cancel, ← Hz.out] at h h2
              exact ⟨by omega, by rw [Nat.add_sub_cancel] at h2; exact h2⟩
          obtain ⟨f1, f2, f3⟩ := Hg.out.fix Hk.out hiq.1 hiq.2
          have Hfix := hid (HFix_any H4.out i hiq.1 (by rw [Hl4.out]; exact Hg.out.ok) (by rw [Hl4.out]; exact Hg.out.few) f1 f2 f3)
          clear hv hz0 hiq f1 f2 f3
          go_wp2_with fail
          refine Hfix.out.mono ?_
          rintro e w5 ⟨rfl, q5, pl5, hM5, hO5, hS5, hH5, hA5⟩
          rw [Hl4.out] at hO5
          have hfin : RRk S r (bumpAt rk k) w (.returned (.tuple #[])) w5 := by
            rw [Hbump.out]
            exact ⟨rfl, S, ⟨⟨_, _, _, q5, pl5, ab, hM5, Hg.out.added Hk.out Hyl.out hS5 hO5 hH5, Ha.out⟩, fun i hi => Nat.lt_of_lt_of_le (HS0.out i hi) (A4.out.go hA5).size⟩, fun i hi => .inl hi, A4.out.go hA5⟩
          have hfin := hid hfin
          clear hM5 hO5 hS5 hH5 hA5 Hfix
          go_wp2_with fail
          go_end0
          exact hfin.out
end Go.Proofs.Ytmimmckhnomcdaa
/- rank.Grow, rank.New. -/
namespace Go.Proofs.Ytmimmckhnomcdaa
open Go.RowKit Big

section
variable {P : Program} {w : World} {ops : Array Oper} {rest : List Oper} {o : Oper} {a : Act} {Q : Exit → Act → World → Prop}
/-- 'append(v, x)', x of one cell: which block may have turned, where the new row lies -/
theorem wpList_append_one (hgd : o.guard = none) (s x : Operand) (t : TypeId)
    (ho : o.op = .call { callee := .builtin .append, args := #[s, x], argTypes := #[t, t] })
    (base : Nat) (e : TypeId) (i : TypeInfo) (z : Value) (bytes : Nat) (ht : P.underlying t = some (.slice e)) (hi : P.info? e = some i) (hz : i.zero = some z)
    (hsize : i.size = 1) (hby : i.bytes = bytes) (hzs : z.cells.size = 1) (v : Value) (n : Nat) (xs : List Value) (hs : a.eval s = v) (hown : w.ownsRow base e 1 v n xs)
    (g : Nat) (u : Value) (T : TypeId) (hx : a.eval x = .slice (some ⟨g, 0, none⟩) 1 1) (hg : w.heap[g]? = some (.cells #[u] T (0, 0))) (h1 : u.oneCell' = true)
    (h63 : n + 1 ≤ maxLen) (hbytes : (n + 1) * bytes ≤ 140737488355328) (hbase : base ≤ w.heap.size)
    (h : ∀ v' w', w'.ownsRow base e 1 v' (n + 1) (xs ++ [u]) → Apart (fun k => v.ownBlock = some k) w w' → (v'.ownBlock = v.ownBlock ∨ ∀ k, v'.ownBlock = some k → w.heap.size ≤ k) → wpList P ops Q rest (a.put o.dst v') w') : wpList P ops Q (o :: rest) a w := by
  refine wpList_append_own_at w hgd s x t ho base e i z 1 bytes ht hi hz hsize hby hzs (by decide) v n xs hs hown ⟨g, 0, none⟩ 1 1 [u] hx rfl (cells_at hg) (by intro y hy; simp at hy; rw [hy]; exact h1) h63 hbytes hbase ?_
  intro v' w' h5 h6 _ h7
  refine h v' w' h5 ((Apart.refl _ _).grown h6 (fun k e => e)) ?_
  rcases h7 with h7 | h7
  · exact .inl h7
  · exact .inr fun k hk => by rw [h7] at hk; injection hk with hk; omega
end
def RGrow (S : Nat → Prop) (r : Nat) (rk : Rk) (w : World) (e : Ending) (w' : World) : Prop :=
  e = .returned (.int .i64 (rk.ws.length + 1 : Nat)) ∧ ∃ S', RkAt w' S' r (rkGrow rk) ∧ (∀ k, S' k → S k ∨ w.heap.size ≤ k) ∧ Apart S w w'
set_option maxRecDepth 100000 in
set_option maxHeartbeats 6400000 in
theorem Grow_any {w : World} {S : Nat → Prop} {r : Nat} {rk : Rk} (h : RkAt w S r rk) (h9 : rk.ws.length < 900000) :
    Calls Try.prog 11 #[.pointer (some ⟨r, 0, none⟩)] w (RGrow S r rk w) := by
  obtain ⟨⟨vw, vq, vp, q, pl, ab, H, hg, ha⟩, hS⟩ := h
  obtain ⟨⟨c0, -, -, -⟩, yf⟩ := H.four
  have f0 := yf 0
  obtain ⟨pw, kw, rfl⟩ := ownsRow_shape H.weights
  obtain ⟨iu, hiu, hu0, hu1, hu2⟩ := info_parts infoU
  obtain ⟨ii, hii, hi0, hi1, hi2⟩ := info_parts infoI
  obtain ⟨N, hN⟩ : ∃ N, N = rk.ws.length := ⟨_, rfl⟩
  have HN := hid hN
  rw [← hN] at c0 h9 H
  have HH := hid H; have Hg := hid hg; have Ha := hid ha; have HS := hid hS
  have hu := hid hiu; have hi := hid hii
  have Hu := hid (show iu.zero = some (.int .u64 0) ∧ iu.size = 1 ∧ iu.bytes = 8 from ⟨hu0, hu1, hu2⟩)
  have Hi := hid (show ii.zero = some (.int .i64 0) ∧ ii.size = 1 ∧ ii.bytes = 8 from ⟨hi0, hi1, hi2⟩)
  clear H hg ha hS hN yf hu0 hu1 hu2 hi0 hi1 hi2 hiu hii
  have b1 := below1 w (.cells #[.int .u64 0] 34)
  have H1 := HH.out.below b1
  have Hrow1 : Hid ((w.alloc (.cells #[.int .u64 0] 34)).ownsRow 0 34 1 (.slice pw N kw) N (ints .u64 rk.ws)) := hid (by have h := H1.weights; unfold Own at h; rw [← HN.out] at h; exact h)
  have HS1 : Hid (∀ w', Apart (fun k => (Value.slice pw N kw).ownBlock = some k) (w.alloc (.cells #[.int .u64 0] 34)) w' → w'.cell? ⟨r, 0, none⟩ = some (.slice pw N kw) ∧ w'.frozen? ⟨r, 0, none⟩ = false) := hid fun w' hA => by
    have hr := (hA.block r H1.lt (fun e => row_ne H1.weights H1.cell (by decide) r e rfl)).trans H1.cell
    exact ⟨by simp [World.cell?, hr], frozen_of_row w' r 0 _ _ hr⟩
  have H1 := hid H1; have b1 := hid b1
  go_enter Try.func11, Try.ntmps11
  go_wp2_with (at_builtin; refine wpList_append_one rfl _ _ 43 rfl 0 34 iu (.int .u64 0) 8 Try.underlying43 hu.out Hu.out.1 Hu.out.2.1 Hu.out.2.2 rfl (.slice pw N kw) N (ints .u64 rk.ws) rfl Hrow1.out w.heap.size (.int .u64 0) 34 rfl (heap_alloc_new _ _) rfl (by simp [maxLen]; omega) (by omega) (Nat.zero_le _) ?_)
  intro v1 w1 ho1 hA1 hv1
  have hc1 := HS1.out w1 hA1
  obtain ⟨d0, d1⟩ := hc1
  obtain ⟨p1, k1, e1⟩ := ownsRow_shape ho1
  subst e1
  have Ho1 := hid ho1; have HA1 := hid hA1; have Hv1 := hid hv1
  clear ho1 hA1 hv1 c0 f0
  go_upto_region 4 with fail
  clear d0 d1
  have ho1 := Ho1.out; have hA1 := HA1.out; have hv1 : (Value.slice p1 (N + 1) k1).ownBlock = (Value.slice pw N kw).ownBlock ∨ ∀ k, (Value.slice p1 (N + 1) k1).ownBlock = some k → (w.alloc (.cells #[.int .u64 0] 34)).heap.size ≤ k := Hv1.out.imp id fun h k hk => by have := h k hk; simpa using this
  clear Ho1 HA1 Hv1
  have hrow2 : Own w1 0 34 .u64 (.slice p1 (N + 1) k1) (rk.ws ++ [0]) := by
    unfold Own
    rw [List.length_append, List.length_singleton, ← HN.out, ← ints_snoc]
    exact ho1
  have hz1 : w.heap.size < (w.alloc (.cells #[.int .u64 0] 34)).heap.size := by simp
  have H2 := (H1.out.stays (S' := Wide S w.heap.size) (fun k h => .inl h) (fun _ _ _ => rfl)).newW (v' := .slice p1 (N + 1) k1) (q' := rk.ws ++ [0]) hA1 hrow2 hv1 (fun k hk => by
    rcases hv1 with e | h
    · exact .inl (H1.out.weightsIn k (by rw [← e]; exact hk))
    · exact .inr (by have := h k hk; omega))
  have A2 : Apart S w (w1.setCell ⟨r, 0, none⟩ (.slice p1 (N + 1) k1)) := ((Apart.of_below b1.out).go (hA1.mono fun k hk => H1.out.weightsIn k hk)).setCell (p := ⟨r, 0, none⟩) H1.out.own _
  clear ho1 hA1 hv1 hrow2 HS1 Hrow1 H1 HH b1
  generalize hW2 : w1.setCell ⟨r, 0, none⟩ (.slice p1 (N + 1) k1) = W2 at *
  clear hW2
  obtain ⟨⟨c0, -, c2, -⟩, yf⟩ := H2.four
  have f2 := yf 2
  clear yf
  obtain ⟨pp, kp, rfl⟩ := ownsRow_shape H2.places
  have hlp : pl.length = N := by rw [HN.out]; exact Hg.out.ok.len
  rw [hlp] at c2 H2
  have hlw : (rk.ws ++ [0]).length = N + 1 := by simp [HN.out]
  have b3 := below1 W2 (.cells #[.int .i64 0] 3)
  have H3 := H2.below b3
  have Hrow3 : Hid ((W2.alloc (.cells #[.int .i64 0] 3)).ownsRow 0 3 1 (.slice pp N kp) N (ints .i64 pl)) := hid (hlp ▸ H3.places)
  have HS3 : Hid (∀ w', Apart (fun k => (Value.slice pp N kp).ownBlock = some k) (W2.alloc (.cells #[.int .i64 0] 3)) w' → w'.cell? ⟨r, 2, none⟩ = some (.slice pp N kp) ∧ w'.cell? ⟨r, 0, none⟩ = some (.slice p1 (N + 1) k1) ∧ w'.frozen? ⟨r, 2, none⟩ = false) := hid fun w' hA => by
    have hr := (hA.block r H3.lt (fun e => row_ne H3.places H3.cell (by decide) r e rfl)).trans H3.cell
    exact ⟨by simp [World.cell?, hr], by simp [World.cell?, hr], frozen_of_row w' r 2 _ _ hr⟩
  have H3 := hid H3; have b3 := hid b3; have A2 := hid A2
  have Hlp := hid hlp; have Hlw := hid hlw
  clear H2 c0 hlp hlw
  go_wp2_with (at_builtin; refine wpList_append_one rfl _ _ 38 rfl 0 3 ii (.int .i64 0) 8 Try.underlying38 hi.out Hi.out.1 Hi.out.2.1 Hi.out.2.2 rfl (.slice pp N kp) N (ints .i64 pl) rfl Hrow3.out W2.heap.size (.int .i64 0) 3 rfl (heap_alloc_new _ _) rfl (by simp [maxLen]; omega) (by omega) (Nat.zero_le _) ?_)
  intro v3 w3 ho3 hA3 hv3
  have hc3 := HS3.out w3 hA3
  obtain ⟨d2, d0, d1⟩ := hc3
  obtain ⟨p3, k3, e3⟩ := ownsRow_shape ho3
  subst e3
  have Ho3 := hid ho3; have HA3 := hid hA3; have Hv3 := hid hv3
  clear ho3 hA3 hv3 c2 f2
  go_upto_region 5 with fail
  have ho3 := Ho3.out; have hA3 := HA3.out; have hv3 : (Value.slice p3 (N + 1) k3).ownBlock = (Value.slice pp N kp).ownBlock ∨ ∀ k, (Value.slice p3 (N + 1) k3).ownBlock = some k → (W2.alloc (.cells #[.int .i64 0] 3)).heap.size ≤ k := Hv3.out.imp id fun h k hk => by have := h k hk; simpa using this
  clear Ho3 HA3 Hv3 d2 d0 d1
  have hz2 := A2.out.size
  have hz3 : W2.heap.size < (W2.alloc (.cells #[.int .i64 0] 3)).heap.size := by simp
  have hrow4 : Own w3 0 3 .i64 (.slice p3 (N + 1) k3) (pl ++ [0]) := by
    unfold Own
    rw [List.length_append, List.length_singleton, Hlp.out, ← ints_snoc]
    exact ho3
  have H4 := H3.out.newP (v' := (.slice p3 (N + 1) k3)) (q' := pl ++ [0]) hA3 hrow4 hv3 (fun k hk => by
    rcases hv3 with e | h
    · exact H3.out.placesIn k (by rw [← e]; exact hk)
    · exact .inr (by have := h k hk; omega))
  have A4 : Apart S w (w3.setCell ⟨r, 2, none⟩ (.slice p3 (N + 1) k3)) := ⟨A2.out.os |> fun h => (hA3.os.trans b3.out.os).trans h, (hA3.tape.trans b3.out.tape).trans A2.out.tape, (hA3.output.trans b3.out.output).trans A2.out.output, by
      have := hA3.size; have := b3.out.size; simp; omega, fun k hk hn => by
    have hkr : k ≠ r := by
      rintro rfl
      rcases H3.out.own with h | h
      · exact hn h
      · omega
    have hkp : (Value.slice pp N kp).ownBlock ≠ some k := fun e => by
      rcases H3.out.placesIn k e with h | h
      · exact hn h
      · omega
    exact ((Below.heap_setCell _ _ _ _ hkr).trans (hA3.block k (by omega) hkp)).trans ((b3.out.block k (by omega)).trans (A2.out.block k hk hn))⟩
  have hz4 := A4.size
  have R4 : RkAt (w3.setCell ⟨r, 2, none⟩ (.slice p3 (N + 1) k3)) (fun k => Wide S w.heap.size k ∧ k < (w3.setCell ⟨r, 2, none⟩ (.slice p3 (N + 1) k3)).heap.size) r (growN rk) :=
    ⟨⟨_, _, _, q, pl ++ [0], ab, H4.bound, Hg.out.grow (by rw [← HN.out]; omega), Ha.out⟩, fun k hk => hk.2⟩
  have Hp := Put_any R4 ((N + 1 : Nat) : Int)
  have hfp : rkPut (growN rk) ((N + 1 : Nat) : Int) = rkGrow rk := by
    have : rkHas (growN rk) ((N + 1 : Nat) : Int) = true := by
      simp only [rkHas, growN, Hlw.out, Bool.and_eq_true, decide_eq_true_eq]; omega
    unfold rkPut
    rw [if_pos this, show (((N + 1 : Nat) : Int)).toNat - 1 = N by omega, HN.out]
    exact putAt_growN rk Hg.out.len
  rw [hfp] at Hp
  have Hp := hid Hp
  obtain ⟨⟨x0, -, -, -⟩, -⟩ := H4.four
  have A4 := hid A4
  clear R4 H4 hrow4 ho3 hA3 hv3 HS3 Hrow3 H3 b3 A2 hfp hz2 hz3 hz1
  generalize hW4 : w3.setCell ⟨r, 2, none⟩ (.slice p3 (N + 1) k3) = W4 at *
  clear hW4
  have e1 : ((N + 1 : Nat) : Int) = (N : Int) + 1 := by omega
  rw [e1] at Hp
  have E1 := hid e1
  clear e1
  go_wp2_with fail
  refine Hp.out.mono ?_
  rintro e w5 ⟨rfl, S5, R5, hS5, A5⟩
  have hfin : RGrow S r rk w (.returned (.int .i64 (N + 1 : Nat))) w5 := ⟨by rw [← HN.out], S5, R5, fun k hk => by
    rcases hS5 k hk with h | h
    · exact h.1
    · exact .inr (by omega), A4.out.trans A5 fun k hk => by
      rcases hk with ⟨h | h, _⟩
      · exact .inl h
      · exact .inr h⟩
  rw [E1.out] at hfin
  have hfin := hid hfin
  clear R5 hS5 A5 Hp
  go_wp2_with fail
  go_ret
  exact hfin.out
end Go.Proofs.Ytmimmckhnomcdaa
/- rank.New. -/
namespace Go.Proofs.Ytmimmckhnomcdaa
open Go.RowKit Big

def rkNew (c : Nat) : Rk := ⟨List.replicate c 0, List.replicate c true, 1⟩
theorem rkGrow_new (c : Nat) : rkGrow (rkNew c) = rkNew (c + 1) := by
  unfold rkGrow rkNew
  simp [List.replicate_succ']
def RNew (c : Nat) (w : World) (e : Ending) (w' : World) : Prop := ∃ r S, e = .returned (.pointer (some ⟨r, 0, none⟩)) ∧ RkAt w' S r (rkNew c) ∧ (∀ k, S k → w.heap.size ≤ k) ∧ Below w.heap.size w w'
theorem RkAt.start (w : World) : RkAt (w.alloc (.cells #[.slice none 0 0, .slice none 0 0, .slice none 0 0, .int .u64 0] 45)) (fun k => k = w.heap.size) w.heap.size (rkNew 0) := by
  refine ⟨⟨.slice none 0 0, .slice none 0 0, .slice none 0 0, [], [], 0, ⟨rfl, heap_alloc_new _ _, Own.nil _ _ _ _, (fun k hk => by cases hk), Own.nil _ _ _ _, (fun k hk => by cases hk), Own.nil _ _ _ _, (fun k hk => by cases hk), fun k hk => by cases hk⟩, ?_, rfl⟩, fun k hk => by subst hk; simp⟩
  exact ⟨⟨rfl, fun i hi => by simp at hi, fun v h1 h2 => by simp [rkNew] at h2; omega⟩, fun k h0 hk => by simp at hk, rfl, fun v h1 h2 => by simp [rkNew] at h2; omega, fun i => by simp [rkNew, at0], by simp [rkNew], by simp [rkNew]⟩
set_option maxRecDepth 100000 in
set_option maxHeartbeats 3200000 in
theorem New_any (n : Int) (hn : n ≤ 4096) (w : World) : Calls Try.prog 9 #[.int .i64 n] w (RNew n.toNat w) := by
  have h0 := hid (RkAt.start w)
  have b0 := hid (below1 w (.cells #[.slice none 0 0, .slice none 0 0, .slice none 0 0, .int .u64 0] 45))
  go_enter Try.func9, Try.ntmps9
  go_wp2_with fail
  generalize hW : w.alloc (.cells #[.slice none 0 0, .slice none 0 0, .slice none 0 0, .int .u64 0] 45) = W1 at *
  clear hW
  go_loopw [8] (fun vk wr => ∃ (k : Nat) (S : Nat → Prop), vk = .int .i64 (k : Nat) ∧ k ≤ n.toNat ∧ Hid (RkAt wr S w.heap.size (rkNew k)) ∧ Hid (∀ k, S k → w.heap.size ≤ k) ∧ Hid (Below w.heap.size w wr)) (fun vk _ => (n - intOf vk).toNat)
  case atStart => exact ⟨0, _, rfl, Nat.zero_le _, h0, hid (fun k hk => by omega), b0⟩
  case round =>
    obtain ⟨k, S, rfl, hk, hR, hS, hB⟩ := hrel
    by_cases hkn : (k : Int) < n
    · have Hg := hid (Grow_any hR.out (by show (List.replicate k 0).length < _; rw [List.length_replicate]; omega))
      go_wp2_with fail
      refine Hg.out.mono ?_
      rintro e w2 ⟨rfl, S2, R2, hS2, A2⟩
      rw [rkGrow_new] at R2
      have hz := hB.out.size
      have R2 := hid R2
      have B2 := hid (hB.out.trans (A2.below (B := w.heap.size) hz hS.out))
      have hS2' := hid (fun k hk => (by rcases hS2 k hk with h | h; exact hS.out k h; omega : w.heap.size ≤ k))
      clear Hg hS2 A2
      go_wp2_with fail
      go_roundw
      case rel => exact ⟨k + 1, S2, by go_num, by omega, R2, hS2', B2⟩
      case measure => simp [intOf]; omega
    · obtain rfl : k = n.toNat := by omega
      go_wp2_with fail
      go_ret
      exact ⟨w.heap.size, S, rfl, hR.out, hS.out, hB.out⟩
end Go.Proofs.Ytmimmckhnomcdaa
/- elenchuslaw12.fixed; RankNil. -/
namespace Go.Proofs.Ytmimmckhnomcdaa
open Go.RowKit Big

def RPopV (S : Nat → Prop) (r : Nat) (rk : Rk) (v : Nat) (w : World) (e : Ending) (w' : World) : Prop := e = .returned (.tuple #[.int .i64 (v : Nat), .bool true]) ∧ RkAt w' S r (popAt rk (v - 1)) ∧ Apart S w w'
theorem Pop_next {w : World} {S : Nat → Prop} {r v : Nat} {rk : Rk} (h : RkAt w S r rk) (hv : Next rk v) : Calls Try.prog 19 #[.pointer (some ⟨r, 0, none⟩)] w (RPopV S r rk v w) := by
  refine (Pop_any h).mono fun e w' hp => ?_
  rcases hp with ⟨-, -, h3⟩ | ⟨u, h1, h2, h3, h4⟩
  · have := h3 v hv.pos hv.le
    rw [hv.waits] at this; cases this
  · obtain rfl := h2.unique hv
    exact ⟨h1, h3, h4⟩
theorem Pop_none {w : World} {S : Nat → Prop} {r : Nat} {rk : Rk} (h : RkAt w S r rk) (hn : ∀ u, 1 ≤ u → u ≤ rk.ws.length → wt0 rk.wt (u - 1) = false) : Calls Try.prog 19 #[.pointer (some ⟨r, 0, none⟩)] w (RSame1 (.tuple #[.int .i64 0, .bool false]) w) := by
  refine (Pop_any h).mono fun e w' hp => ?_
  rcases hp with ⟨h1, h2, -⟩ | ⟨u, h1, h2, h3, h4⟩
  · exact ⟨h1, h2⟩
  · have := hn u h2.pos h2.le
    rw [h2.waits] at this; cases this
theorem next_small {rk : Rk} {v : Nat} (n : Nat) (hn : rk.ws.length = n) (h1 : 1 ≤ v) (h2 : v ≤ n) (h3 : wt0 rk.wt (v - 1) = true) (h4 : (List.range n).all (fun u => !(wt0 rk.wt u) || !(decide (rkLt rk.ws (u + 1) v))) = true) : Next rk v := by
  refine ⟨h1, by omega, h3, fun u hu1 hu2 hu3 => ?_⟩
  have := List.all_eq_true.1 h4 (u - 1) (by simp; omega)
  rw [hu3, show u - 1 + 1 = u by omega] at this
  simpa using this
set_option maxRecDepth 100000 in
set_option maxHeartbeats 3200000 in
theorem fixed_any (w : World) : Calls Try.prog 8 #[] w (RBool true w) := by
  have Hn := hid (New_any 3 (by decide) w)
  go_enter Try.func8, Try.ntmps8
  go_wp2_with fail
  refine Hn.out.mono ?_
  rintro e w1 ⟨r, S, rfl, R1, hS1, B1⟩
  have Hb := hid (Bump_any R1 2)
  have hS1 := hid hS1; have B1 := hid B1
  clear R1 Hn
  go_wp2_with fail
  refine Hb.out.mono ?_
  rintro e w2 ⟨rfl, S2, R2, hS2, A2⟩
  have e2 : rkBump (rkNew (3 : Int).toNat) 2 = ⟨[0, 1, 0], [true, true, true], 1⟩ := by kernel_rfl
  rw [e2] at R2
  have B2 := hid (B1.out.trans (A2.below (B := w.heap.size) B1.out.size hS1.out))
  have hS2' := hid (fun k hk => (by rcases hS2 k hk with h | h; exact hS1.out k h; have := B1.out.size; omega : w.heap.size ≤ k))
  have P2 := hid (Pop_next R2 (next_small 3 rfl (by decide) (by decide) (by decide) (by decide) : Next ⟨[0, 1, 0], [true, true, true], 1⟩ 2))
  clear R2 hS2 A2 Hb hS1 B1 e2
  go_wp2_with fail
  refine P2.out.mono ?_
  rintro e w3 ⟨rfl, R3, A3⟩
  have B3 := hid (B2.out.trans (A3.below (B := w.heap.size) B2.out.size hS2'.out))
  have P3 := hid (Pop_next R3 (next_small 3 rfl (by decide) (by decide) (by decide) (by decide) : Next (popAt ⟨[0, 1, 0], [true, true, true], 1⟩ (2 - 1)) 1))
  clear R3 A3 P2 B2
  go_wp2_with fail
  refine P3.out.mono ?_
  rintro e w4 ⟨rfl, R4, A4⟩
  have B4 := hid (B3.out.trans (A4.below (B := w.heap.size) B3.out.size hS2'.out))
  have P4 := hid (Pop_next R4 (next_small 3 rfl (by decide) (by decide) (by decide) (by decide) : Next (popAt (popAt ⟨[0, 1, 0], [true, true, true], 1⟩ (2 - 1)) (1 - 1)) 3))
  clear R4 A4 P3 B3
  go_wp2_with fail
  refine P4.out.mono ?_
  rintro e w5 ⟨rfl, R5, A5⟩
  have B5 := hid (B4.out.trans (A5.below (B := w.heap.size) B4.out.size hS2'.out))
  have P5 := hid (Pop_none R5 (fun u h1 h2 => by
    have h2' : u ≤ 3 := h2
    rcases (by omega : u = 1 ∨ u = 2 ∨ u = 3) with rfl | rfl | rfl <;> rfl))
  have W5 := hid (Weight_any R5 2)
  have e5 : rkWeight (popAt (popAt (popAt ⟨[0, 1, 0], [true, true, true], 1⟩ (2 - 1)) (1 - 1)) (3 - 1)) 2 = 1 := by decide +kernel
  rw [e5] at W5
  clear R5 A5 P4 B4 e5
  go_wp2_with fail
  refine P5.out.mono ?_
  rintro e w6 ⟨rfl, rfl⟩
  clear P5
  go_wp2_with fail
  refine W5.out.mono ?_
  rintro e w7 ⟨rfl, rfl⟩
  go_wp2
  go_ret
  exact ⟨rfl, B5.out⟩
theorem has_nil (v : Int) (w : World) : Calls Try.prog 23 #[.pointer none, .int .i64 v] w (RSame1 (.bool false) w) := by
  go_enter Try.func23, Try.ntmps23
  go_wp2
  go_ret
  exact ⟨rfl, rfl⟩
theorem Bump_nil (v : Int) (w : World) : Calls Try.prog 13 #[.pointer none, .int .i64 v] w (RSame1 (.tuple #[]) w) := by
  have H := hid (has_nil v w)
  go_enter Try.func13, Try.ntmps13
  go_wp2_with fail
  refine H.out.mono ?_
  rintro e w1 ⟨rfl, rfl⟩
  go_wp2
  go_end0
  exact ⟨rfl, rfl⟩
theorem Put_nil (v : Int) (w : World) : Calls Try.prog 17 #[.pointer none, .int .i64 v] w (RSame1 (.tuple #[]) w) := by
  have H := hid (has_nil v w)
  go_enter Try.func17, Try.ntmps17
  go_wp2_with fail
  refine H.out.mono ?_
  rintro e w1 ⟨rfl, rfl⟩
  go_wp2
  go_end0
  exact ⟨rfl, rfl⟩
theorem Weight_nil (v : Int) (w : World) : Calls Try.prog 21 #[.pointer none, .int .i64 v] w (RSame1 (.int .u64 0) w) := by
  have H := hid (has_nil v w)
  go_enter Try.func21, Try.ntmps21
  go_wp2_with fail
  refine H.out.mono ?_
  rintro e w1 ⟨rfl, rfl⟩
  go_wp2
  go_ret
  exact ⟨rfl, rfl⟩
theorem Decay_nil (w : World) : Calls Try.prog 15 #[.pointer none] w (RSame1 (.tuple #[]) w) := by
  go_enter Try.func15, Try.ntmps15
  go_wp2
  go_end0
  exact ⟨rfl, rfl⟩
theorem Pop_nil (w : World) : Calls Try.prog 19 #[.pointer none] w (RSame1 (.tuple #[.int .i64 0, .bool false]) w) := by
  go_enter Try.func19, Try.ntmps19
  go_wp2
  go_ret2
  exact ⟨rfl, rfl⟩
theorem Grow_nil (w : World) : Calls Try.prog 11 #[.pointer none] w (RSame1 (.int .i64 0) w) := by
  go_enter Try.func11, Try.ntmps11
  go_wp2
  go_ret
  exact ⟨rfl, rfl⟩
set_option maxRecDepth 100000 in
set_option maxHeartbeats 3200000 in
theorem lawNil_any (v : Int) (w : World) : Calls Try.prog 7 #[.int .i64 v] w (RBool true w) := by
  have H := hid (fixed_any w)
  go_enter Try.func7, Try.ntmps7
  go_wp2_with fail
  refine H.out.mono ?_
  rintro e w1 ⟨rfl, b1⟩
  have b1 := hid b1
  go_wp2_with fail
  refine (Bump_nil v _).mono ?_
  rintro e w2 ⟨rfl, rfl⟩
  go_wp2_with fail
  refine (Put_nil v _).mono ?_
  rintro e w2 ⟨rfl, rfl⟩
  go_wp2_with fail
  refine (Decay_nil _).mono ?_
  rintro e w2 ⟨rfl, rfl⟩
  go_wp2_with fail
  refine (Pop_nil _).mono ?_
  rintro e w2 ⟨rfl, rfl⟩
  go_wp2_with fail
  refine (Weight_nil v _).mono ?_
  rintro e w2 ⟨rfl, rfl⟩
  go_wp2_with fail
  refine (Grow_nil _).mono ?_
  rintro e w2 ⟨rfl, rfl⟩
  go_wp2
  go_ret
  exact ⟨rfl, b1.out⟩
end Go.Proofs.Ytmimmckhnomcdaa
