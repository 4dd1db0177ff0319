/- Texts put together: SxDeep. -/
import Derived.Test.YtcpkejonpnmljaaSexpLongCardM6
/- elenchuslaw03.SexpDeep. -/
namespace Go.Proofs.Ytcpkejonpnmljaa
open Go.RowKit

theorem run1 {s : ByteArray} {n a : Nat} {f : List Lp} {l : Lp} (ha : a < s.size) (h : sxAt s a = 1) : sxRun s (n + 1) a f l = sxRun s n (a + 1) f l := by
  rw [sxRun, if_pos ha]; unfold sxStep; simp only [h]
theorem run7 {s : ByteArray} {n a : Nat} {f : List Lp} {l : Lp} (ha : a < s.size) (h : sxAt s a = 7) (hf : f.length ≠ 64) : sxRun s (n + 1) a f l = sxRun s n (a + 1) (f ++ [l]) (a, []) := by
  rw [sxRun, if_pos ha]; unfold sxStep; simp only [h, if_neg hf]
theorem run7e {s : ByteArray} {n a : Nat} {f : List Lp} {l : Lp} (ha : a < s.size) (h : sxAt s a = 7) (hf : f.length = 64) : sxRun s (n + 1) a f l = .error (a, 5) := by
  rw [sxRun, if_pos ha]; unfold sxStep; simp only [h, if_pos hf]
theorem run8 {s : ByteArray} {n a : Nat} {f : List Lp} {y l : Lp} (ha : a < s.size) (h : sxAt s a = 8) : sxRun s (n + 1) a (f ++ [y]) l = sxRun s n (a + 1) f (sxPut y (.mk 4 l.1 ⟨#[]⟩ l.2)) := by
  rw [sxRun, if_pos ha]; unfold sxStep; simp only [h]; simp
theorem runs1 {s : ByteArray} {f : List Lp} {l : Lp} : ∀ (j n a : Nat), a + j ≤ s.size → (∀ i, a ≤ i → i < a + j → sxAt s i = 1) → sxRun s (n + j) a f l = sxRun s n (a + j) f l
  | 0, n, a, _, _ => rfl
  | j + 1, n, a, hs, h => by
    rw [← Nat.add_assoc, run1 (by omega) (h a (Nat.le_refl _) (by omega)), runs1 j n (a + 1) (by omega) (fun i h1 h2 => h i (by omega) (by omega))]
    congr 1; omega
theorem runs7 {s : ByteArray} : ∀ (j n a : Nat) (f : List Lp) (l : Lp), a + j ≤ s.size → (∀ i, a ≤ i → i < a + j → sxAt s i = 7) → f.length + j ≤ 64 → ∃ f' l', f'.length = f.length + j ∧ sxRun s (n + j) a f l = sxRun s n (a + j) f' l'
  | 0, n, a, f, l, _, _, _ => ⟨f, l, rfl, rfl⟩
  | j + 1, n, a, f, l, hs, h, hf => by
    obtain ⟨f', l', h1, h2⟩ := runs7 j n (a + 1) (f ++ [l]) (a, []) (by omega) (fun i h1 h2 => h i (by omega) (by omega)) (by simp; omega)
    refine ⟨f', l', by simp at h1; omega, ?_⟩
    rw [← Nat.add_assoc, run7 (by omega) (h a (Nat.le_refl _) (by omega)) (by omega), h2]
    congr 1; omega
theorem runs8 {s : ByteArray} : ∀ (j n a : Nat) (f : List Lp) (l : Lp), a + j ≤ s.size → (∀ i, a ≤ i → i < a + j → sxAt s i = 8) → f.length = j → ∃ l', sxRun s (n + j) a f l = sxRun s n (a + j) [] l'
  | 0, n, a, f, l, _, _, hf => ⟨l, by rw [List.eq_nil_of_length_eq_zero hf]; rfl⟩
  | j + 1, n, a, f, l, hs, h, hf => by
    rcases List.eq_nil_or_concat f with rfl | ⟨f0, y, rfl⟩
    · simp at hf
    · rw [List.concat_eq_append] at hf ⊢
      obtain ⟨l', h2⟩ := runs8 j n (a + 1) f0 (sxPut y (.mk 4 l.1 ⟨#[]⟩ l.2)) (by omega) (fun i h1 h2 => h i (by omega) (by omega)) (by simpa using hf)
      refine ⟨l', ?_⟩
      rw [← Nat.add_assoc, run8 (by omega) (h a (Nat.le_refl _) (by omega)), h2]
      congr 1; omega
/-- so many blanks, '(' and ')' -/
def deepL (b j k : Nat) : List UInt8 := List.replicate b 32 ++ (List.replicate j 40 ++ List.replicate k 41)
theorem bz_snoc (l : List UInt8) (c : UInt8) : bz l ++ ⟨#[c]⟩ = bz (l ++ [c]) := by
  unfold bz
  apply ByteArray.ext
  simp
theorem deep_add1 (j : Nat) : bz (deepL j 0 0) ++ ⟨#[32]⟩ = bz (deepL (j + 1) 0 0) := by rw [bz_snoc]; simp [deepL, List.replicate_succ']
theorem deep_add2 (b j : Nat) : bz (deepL b j 0) ++ ⟨#[40]⟩ = bz (deepL b (j + 1) 0) := by rw [bz_snoc]; simp [deepL, List.replicate_succ']
theorem deep_add3 (b k j : Nat) : bz (deepL b k j) ++ ⟨#[41]⟩ = bz (deepL b k (j + 1)) := by rw [bz_snoc]; simp [deepL, List.replicate_succ']
theorem deepL_size (b j k : Nat) : (bz (deepL b j k)).size = b + (j + k) := by rw [bz_size]; simp [deepL]
theorem deep_at (b j k i : Nat) (hi : i < b + (j + k)) : sxAt (bz (deepL b j k)) i = if i < b then 1 else if i < b + j then 7 else 8 := by
  unfold sxAt bz deepL
  have e : ((List.replicate b (32 : UInt8) ++ (List.replicate j 40 ++ List.replicate k 41)).toArray.toList.getD i 0) = if i < b then 32 else if i < b + j then 40 else 41 := by
    by_cases h1 : i < b
    · simp [List.getD, List.getElem?_append, List.getElem?_replicate, h1]
    · by_cases h2 : i < b + j
      · have h3 : i - b < j := by omega
        simp [List.getD, List.getElem?_append, List.getElem?_replicate, h1, h2, h3]
      · have h3 : ¬ i - b < j := by omega
        have h4 : i - b - j < k := by omega
        simp [List.getD, List.getElem?_append, List.getElem?_replicate, h1, h2, h3, h4]
  show sxSort (UInt8.toNat _) = _
  rw [e]
  split
  · rfl
  · split <;> rfl
theorem deep_ok (b k : Nat) (hk : k ≤ 64) : ∃ l, sxRun (bz (deepL b k k)) (b + (k + k) + 1) 0 [] (0, []) = .ok ([], l) := by
  have hz := deepL_size b k k
  obtain ⟨f1, l1, h1, h2⟩ := runs7 (s := bz (deepL b k k)) k (1 + k) b [] (0, []) (by omega) (fun i h1 h2 => by rw [deep_at b k k i (by omega), if_neg (by omega), if_pos (by omega)]) (by simpa using hk)
  obtain ⟨l2, h3⟩ := runs8 (s := bz (deepL b k k)) k 1 (b + k) f1 l1 (by omega) (fun i h1 h2 => by rw [deep_at b k k i (by omega), if_neg (by omega), if_neg (by omega)]) (by simpa using h1)
  refine ⟨l2, ?_⟩
  have h0 := runs1 (s := bz (deepL b k k)) (f := []) (l := (0, [])) b (1 + k + k) 0 (by omega) (fun i h1 h2 => by rw [deep_at b k k i (by omega), if_pos (by omega)])
  rw [show b + (k + k) + 1 = 1 + k + k + b by omega, h0, Nat.zero_add, h2, h3, sxRun, if_neg (by omega)]
theorem deep_bad (b k : Nat) (hk : 64 < k) : sxRun (bz (deepL b k k)) (b + (k + k) + 1) 0 [] (0, []) = .error (b + 64, 5) := by
  have hz := deepL_size b k k
  obtain ⟨f1, l1, h1, h2⟩ := runs7 (s := bz (deepL b k k)) 64 (1 + (k - 64 - 1) + k + 1) b [] (0, []) (by omega) (fun i h1 h2 => by rw [deep_at b k k i (by omega), if_neg (by omega), if_pos (by omega)]) (by simp)
  have h0 := runs1 (s := bz (deepL b k k)) (f := []) (l := (0, [])) b (1 + (k - 64 - 1) + k + 1 + 64) 0 (by omega) (fun i h1 h2 => by rw [deep_at b k k i (by omega), if_pos (by omega)])
  rw [show b + (k + k) + 1 = 1 + (k - 64 - 1) + k + 1 + 64 + b by omega, h0, Nat.zero_add, h2, run7e (by omega) (by rw [deep_at b k k _ (by omega), if_neg (by omega), if_pos (by omega)]) (by simpa using h1)]

set_option maxRecDepth 100000 in
set_option maxHeartbeats 3200000 in
theorem lawDeep_any (n m : Nat) (hn : n < 256) (hm : m < 256) (w : World) : Calls Try.prog 4 #[.int .u8 (n : Nat), .int .u8 (m : Nat)] w (RBool true w) := by
  have Hf := hid (fixed3_any w)
  go_enter Try.func4, Try.ntmps4
  go_wp2_with fail
  refine Hf.out.mono ?_
  rintro e w1 ⟨rfl, hb1⟩
  go_wp2_with fail
  obtain ⟨b, hb⟩ : ∃ b, b = m % 9 := ⟨_, rfl⟩
  obtain ⟨k, hk⟩ : ∃ k, k = n % 80 := ⟨_, rfl⟩
  have e1 : (m : Int) % 9 = (b : Nat) := by omega
  have e2 : (n : Int) % 80 = (k : Nat) := by omega
  have b9 : b < 9 := by omega
  have k80 : k < 80 := by omega
  have e0 : (⟨#[]⟩ : ByteArray) = bz (deepL 0 0 0) := rfl
  rw [e1, e2, e0]
  have E1 := hid e1; have HB := hid hb1
  clear hb hk e1 e2 e0 hb1
  have ad1 : ∀ (j : Nat), j < 9 → (Op.stringOp .add (bz (deepL j 0 0)) ⟨#[32]⟩).run Try.prog w1 = .ok (.string (bz (deepL (j + 1) 0 0))) w1 := fun j hj => by
    rw [run_add _ _ _ _ (by rw [deepL_size]; show _ + 1 ≤ _; omega)]
    have : bz (deepL j 0 0) ++ ⟨#[32]⟩ = bz (deepL (j + 1) 0 0) := deep_add1 ..
    rw [this]
  have ad2 : ∀ (j : Nat), j < 80 → (Op.stringOp .add (bz (deepL b j 0)) ⟨#[40]⟩).run Try.prog w1 = .ok (.string (bz (deepL b (j + 1) 0))) w1 := fun j hj => by
    rw [run_add _ _ _ _ (by rw [deepL_size]; show _ + 1 ≤ _; omega)]
    have : bz (deepL b j 0) ++ ⟨#[40]⟩ = bz (deepL b (j + 1) 0) := deep_add2 ..
    rw [this]
  have ad3 : ∀ (j : Nat), j < 80 → (Op.stringOp .add (bz (deepL b k j)) ⟨#[41]⟩).run Try.prog w1 = .ok (.string (bz (deepL b k (j + 1)))) w1 := fun j hj => by
    rw [run_add _ _ _ _ (by rw [deepL_size]; show _ + 1 ≤ _; omega)]
    have : bz (deepL b k j) ++ ⟨#[41]⟩ = bz (deepL b k (j + 1)) := deep_add3 ..
    rw [this]
  have Ad1 := hid ad1; have Ad2 := hid ad2; have Ad3 := hid ad3
  have hrd := Read_any (bz (deepL b k k)) w1 (by rw [deepL_size]; omega)
  rw [deepL_size] at hrd
  have Hrd := hid hrd
  clear ad1 ad2 ad3 hrd
  go_loop [6, 17] (fun s i => ∃ j : Nat, j ≤ b ∧ i = .int .u8 (j : Nat) ∧ s = .string (bz (deepL j 0 0))) (fun _ i => b - (RowKit.intOf i).toNat)
  case atStart => exact ⟨0, Nat.zero_le _, rfl, rfl⟩
  case round =>
    obtain ⟨j, hj, rfl, rfl⟩ := hrel
    by_cases hlt : j < b
    · have had := Ad1.out j (by omega)
      have hlt' : (j : Int) < (b : Int) := by omega
      have hj8 : (j : Int) ≤ 10 := by omega
      go_wp2_with fail
      exact ⟨⟨j + 1, by omega, by go_num, rfl⟩, by simp [RowKit.intOf]; omega⟩
    · obtain rfl : j = b := by omega
      go_wp2_with fail
      go_loop [6, 23] (fun s i => ∃ c : Nat, c ≤ k ∧ i = .int .i64 (c : Nat) ∧ s = .string (bz (deepL j c 0))) (fun _ i => k - (RowKit.intOf i).toNat)
      case atStart => exact ⟨0, Nat.zero_le _, rfl, rfl⟩
      case round =>
        obtain ⟨c, hc, rfl, rfl⟩ := hrel
        by_cases hlt : c < k
        · have had := Ad2.out c (by omega)
          have hlt' : (c : Int) < (k : Int) := by omega
          have hj8 : (c : Int) ≤ 100 := by omega
          go_wp2_with fail
          exact ⟨⟨c + 1, by omega, by go_num, rfl⟩, by simp [RowKit.intOf]; omega⟩
        · obtain rfl : c = k := by omega
          go_wp2_with fail
          go_loop [6, 29] (fun s i => ∃ d : Nat, d ≤ c ∧ i = .int .i64 (d : Nat) ∧ s = .string (bz (deepL j c d))) (fun _ i => c - (RowKit.intOf i).toNat)
          case atStart => exact ⟨0, Nat.zero_le _, rfl, rfl⟩
          case round =>
            obtain ⟨d, hd, rfl, rfl⟩ := hrel
            by_cases hlt : d < c
            · have had := Ad3.out d (by omega)
              have hlt' : (d : Int) < (c : Int) := by omega
              have hj8 : (d : Int) ≤ 100 := by omega
              go_wp2_with fail
              exact ⟨⟨d + 1, by omega, by go_num, rfl⟩, by simp [RowKit.intOf]; omega⟩
            · obtain rfl : d = c := by omega
              by_cases h64 : d ≤ 64
              · obtain ⟨l, hl⟩ := deep_ok j d h64
                rw [hl] at Hrd
                have h64' : ¬ (64 : Int) < (d : Int) := by omega
                go_wp2_with fail
                refine Hrd.out.mono ?_
                intro e w2 h2
                unfold RAll at h2
                simp only [if_true] at h2
                obtain ⟨v, rfl, -, hb2⟩ := h2
                have HB2 := hid (HB.out.trans (hb2.mono HB.out.size))
                clear hb2
                go_wp2_with fail
                go_ret
                exact ⟨rfl, HB2.out⟩
              · rw [deep_bad j d (by omega)] at Hrd
                have h64' : (64 : Int) < (d : Int) := by omega
                have E1 := E1.out
                have hje : (((j + 64 : Nat) : Int) == (j : Int) + 64) = true := by simp
                go_wp2_with fail
                refine Hrd.out.mono ?_
                intro e w2 h2
                unfold RAll at h2
                obtain ⟨rfl, hb2⟩ := h2
                have HB2 := hid (HB.out.trans (hb2.mono HB.out.size))
                clear hb2
                go_wp2_with fail
                go_ret
                exact ⟨rfl, HB2.out⟩
end Go.Proofs.Ytcpkejonpnmljaa
