/- Texts put together: Knuth, HalfTrim, Split, DivShort, Join, TimesPlus, TimesHalves, TimesWalk, RefTrim, Digits, From, RefWhole, RefPlus, RefLess, RefCompare, RefNum, RefAdd. -/
import Derived.Test.YtlijekppbpefaaaRoundsCardM1
import Derived.BigQuiet
import Derived.Deep.QuietTactic
import Derived.Laws.BitsAll
/- Division as on paper: plain numbers. -/
namespace Go.Proofs.Ytlijekppbpefaaa.Big

/-- the guess from the highest halves: right, or one too often -/
theorem guess_ok {P low lowb R T r0 r1 r2 t0 t1 h q : Nat} (hl : low < P) (hlb : lowb < P) (hR : R = r0 + H * r1 + H * H * r2) (hT : T = t0 + H * t1)
    (h0 : r0 < H) (h1 : r1 < H) (ht0 : t0 < H) (ht : 2147483648 ≤ t1) (hlt : low + P * R < (lowb + P * T) * H) (hh : h = (r2 * H + r1) / t1) (hq : q = (low + P * R) / (lowb + P * T)) :
    q < H ∧ h ≤ H + 1 ∧ ((H ≤ h ∨ R < h * T) → q ≤ h - 1 ∧ h - 1 ≤ q + 1 ∧ h - 1 ≤ H ∧ 0 < h) ∧ (h < H → h * T ≤ R → q ≤ h ∧ h ≤ q + 1) := by
  have hH : H = 4294967296 := rfl
  have hB : 0 < lowb + P * T := by
    have : 0 < T := by rw [hT]; have : H * 2147483648 ≤ H * t1 := Nat.mul_le_mul_left _ ht; omega
    have : 0 < P * T := Nat.mul_pos (by omega) this
    omega
  have q1 : q < H := by rw [hq, Nat.div_lt_iff_lt_mul hB]; rw [Nat.mul_comm H]; exact hlt
  have hqB : q * (lowb + P * T) ≤ low + P * R := by rw [hq]; exact Nat.div_mul_le_self _ _
  have lower : ∀ k, k * (T + 1) ≤ R → k ≤ q := fun k hk => by
    rw [hq, Nat.le_div_iff_mul_le hB]
    have e1 : k * (lowb + P * T) ≤ k * (P * (T + 1)) := Nat.mul_le_mul_left _ (by rw [Nat.mul_add]; omega)
    have e2 : k * (P * (T + 1)) = P * (k * (T + 1)) := by grind
    have e3 : P * (k * (T + 1)) ≤ P * R := Nat.mul_le_mul_left _ hk
    omega
  have qT : q * T ≤ R := by
    have e1 : P * (q * T) ≤ low + P * R := by
      have : P * (q * T) = q * (P * T) := by grind
      have : q * (P * T) ≤ q * (lowb + P * T) := Nat.mul_le_mul_left _ (by omega)
      omega
    have e2 : P * (q * T) < P * (R + 1) := by rw [Nat.mul_add]; omega
    have := Nat.lt_of_mul_lt_mul_left e2
    omega
  have r2t : r2 ≤ t1 := by
    have e1 : P * (H * H * r2) ≤ P * R := Nat.mul_le_mul_left _ (by rw [hR]; omega)
    have e2 : (lowb + P * T) * H < P * (H * H * (t1 + 1)) := by
      have a1 : lowb + P * T < P * (H * (t1 + 1)) := by
        have : T + 1 ≤ H * (t1 + 1) := by rw [hT, Nat.mul_add]; omega
        have : P * (T + 1) ≤ P * (H * (t1 + 1)) := Nat.mul_le_mul_left _ this
        rw [Nat.mul_add] at this; omega
      have a2 : (lowb + P * T) * H < P * (H * (t1 + 1)) * H := Nat.mul_lt_mul_of_pos_right a1 (by omega)
      have a3 : P * (H * (t1 + 1)) * H = P * (H * H * (t1 + 1)) := by grind
      omega
    have e3 : P * (H * H * r2) < P * (H * H * (t1 + 1)) := by omega
    have e4 := Nat.lt_of_mul_lt_mul_left e3
    have e5 := Nat.lt_of_mul_lt_mul_left e4
    omega
  have hle : h ≤ H + 1 := by
    have : h < H + 2 := by
      rw [hh, Nat.div_lt_iff_lt_mul (by omega)]
      have e1 : r2 * H ≤ t1 * H := Nat.mul_le_mul_right _ r2t
      have e2 : (H + 2) * t1 = t1 * H + 2 * t1 := by grind
      rw [e2]; omega
    omega
  have hht : h * t1 ≤ r2 * H + r1 := by rw [hh]; exact Nat.div_mul_le_self _ _
  have hRh : R = (r2 * H + r1) * H + r0 := by rw [hR]; grind
  refine ⟨q1, hle, fun hc => ?_, fun hc1 hc2 => ?_⟩
  · have qh : q < h := by
      rcases hc with hc | hc
      · omega
      · have : q * T < h * T := by omega
        exact Nat.lt_of_mul_lt_mul_right this
    refine ⟨by omega, ?_, by omega, by omega⟩
    by_cases h2 : 2 ≤ h
    · have := lower (h - 2) (by
        obtain ⟨k, rfl⟩ : ∃ k, h = k + 2 := ⟨h - 2, by omega⟩
        have ek : k + 2 - 2 = k := by omega
        rw [ek]
        have e1 : k * (T + 1) ≤ k * (t1 * H + H) := Nat.mul_le_mul_left _ (by rw [hT, Nat.mul_comm H t1]; omega)
        have e2 : k * (t1 * H + H) + 2 * t1 * H = (k + 2) * t1 * H + k * H := by grind
        have e3 : (k + 2) * t1 * H ≤ (r2 * H + r1) * H := Nat.mul_le_mul_right _ hht
        have e4 : k * H ≤ 2 * t1 * H := Nat.mul_le_mul_right _ (by omega)
        omega)
      omega
    · omega
  · refine ⟨?_, ?_⟩
    · have : q * t1 ≤ r2 * H + r1 := by
        have e1 : q * T ≤ (r2 * H + r1) * H + r0 := by rw [← hRh]; exact qT
        have e2 : q * t1 * H ≤ q * T := by
          have : q * T = q * t0 + q * t1 * H := by rw [hT]; grind
          omega
        have e3 : q * t1 * H < (r2 * H + r1 + 1) * H := by rw [Nat.add_mul (r2 * H + r1) 1 H]; omega
        have := Nat.lt_of_mul_lt_mul_right e3
        omega
      rw [hh, Nat.le_div_iff_mul_le (by omega)]; exact this
    · by_cases h1' : 1 ≤ h
      · have := lower (h - 1) (by
          obtain ⟨k, rfl⟩ : ∃ k, h = k + 1 := ⟨h - 1, by omega⟩
          have ek : k + 1 - 1 = k := by omega
          rw [ek]
          have e1 : k * (T + 1) + T = (k + 1) * T + k := by grind
          have e2 : H ≤ T := by rw [hT]; have : H * 1 ≤ H * t1 := Nat.mul_le_mul_left _ (by omega); omega
          omega)
        omega
      · omega
end Go.Proofs.Ytlijekppbpefaaa.Big
/- whole.trimHalves: what is left is the digits without the noughts at the end. -/
namespace Go.Proofs.Ytlijekppbpefaaa
open Go.RowKit Big

set_option maxHeartbeats 400000 in
theorem htrim_val (v : Value) (l : List Nat) (w : World) (h : At w .u32 v l) :
    Calls Try.prog 75 #[v] w (fun e w' => e = .returned (cutTo v (strip l).length) ∧ w' = w) := by
  obtain ⟨p, cap, rfl, h1, h2, h3, h4⟩ := h
  unfold maxLen at h2
  go_enter Try.func75, Try.ntmps75
  go_wp2
  go_loop [0] (fun s => ∃ k : Nat, k ≤ l.length ∧ s = .slice p k cap ∧ strip (l.take k) = strip l) (fun s => lenOf s)
  case atStart => exact ⟨l.length, Nat.le_refl _, rfl, by rw [List.take_length]⟩
  case round =>
    obtain ⟨k, hk, rfl, hs⟩ := hrel
    have Hs := hid hs; clear hs
    by_cases hk0 : 0 < k
    · obtain ⟨b, off, rfl, hb, hc⟩ := h4 (by omega)
      have hck : w.cell? ⟨b, off + (k - 1), none⟩ = some (.int .u32 (l[k-1]'(by omega) : Nat)) := hc (k - 1) (by omega)
      clear hc h4
      go_wp2
      · go_round
        case rel =>
          have hz : ((l[k-1]'(by omega) : Nat) == 0) = true := by simpa using ‹((l[k-1]'(by omega) : Nat) == (0 : Int)) = true›
          refine ⟨k - 1, by omega, rfl, ?_⟩
          rw [← Hs.out, ← strip_take (k := k - 1) (by omega) (by simpa using hz), Nat.sub_add_cancel hk0]
        case measure => simp [lenOf]; omega
      · have hz : ¬ (l[k-1]'(by omega) : Nat) = 0 := by
          have := ‹((l[k-1]'(by omega) : Nat) == (0 : Int)) = false›
          simpa using this
        have hs := strip_take_ne (l := l) (k := k - 1) (by omega) hz
        rw [Nat.sub_add_cancel hk0, Hs.out] at hs
        go_ret
        exact ⟨by rw [hs, List.length_take, Nat.min_eq_left hk]; rfl, rfl⟩
    · obtain rfl : k = 0 := by omega
      have hs : Hid (strip l = []) := by rw [← Hs.out]; rfl
      go_wp2
      go_ret
      exact ⟨by rw [hs.out]; rfl, rfl⟩
theorem htrim_any (v : Value) (l : List Nat) (w : World) (h : At w .u32 v l) : Calls Try.prog 75 #[v] w (RSame .u32 (strip l) w) :=
  (htrim_val v l w h).mono fun _ _ ⟨he, hw⟩ => ⟨_, he, by subst hw; exact h.strip, hw.symm⟩
end Go.Proofs.Ytlijekppbpefaaa
/- whole.split: words as halves of words. -/
namespace Go.Proofs.Ytlijekppbpefaaa
open Go.RowKit Big

theorem At.twoI (w : World) (k : IntKind) (e e' : Int) (x y : Nat) (t : TypeId) (h : e = (x : Int)) (h' : e' = (y : Int)) : At (w.alloc (.cells #[.int k e, .int k e'] t)) k (.slice (some ⟨w.heap.size, 0, none⟩) 2 2) [x, y] := by
  subst h; subst h'
  refine ⟨_, 2, rfl, by simp, by simp [maxLen], fun h => (by cases h), fun _ => ⟨_, _, rfl, by simp, fun i hi => ?_⟩⟩
  have hh := heap_alloc_new w (.cells #[.int k (x : Nat), .int k (y : Nat)] t)
  rcases (by simp at hi; omega : i = 0 ∨ i = 1) with rfl | rfl
  · exact (two_cells hh).1
  · exact (two_cells hh).2.1

theorem split_step {L l : List Nat} {k x : Nat} {hk : k < l.length} (hL : L.length = 2 * k) (hx : x = l[k]) (hv : val H L = val W (l.take k)) :
    val H (L ++ [x % 4294967296, x / 4294967296]) = val W (l.take (k + 1)) := by
  rw [val_append, val_take_succ W l k hk, hv, hL, ← hx, show H ^ (2 * k) = W ^ k by rw [Nat.pow_mul]; rfl]
  have e : val H [x % 4294967296, x / 4294967296] = x := by simp only [val, H]; omega
  rw [e]

set_option maxRecDepth 100000 in
set_option maxHeartbeats 1600000 in
theorem split_any (v : Value) (l : List Nat) (w : World) (h : At w .u64 v l) (hs : Small W l) (hlen : l.length ≤ 1099511627776) :
    Calls Try.prog 59 #[v] w (ROwn 90 .u32 (dig H (val W l)) w) := by
  obtain ⟨p, cap, rfl, a1, a2, a3, a4⟩ := h
  unfold maxLen at a2
  go_enter Try.func59, Try.ntmps59
  go_wp2_with (first
    | (at_make; refine wpList_make_at rfl _ _ 75 rfl elemHalves w.heap.size _ _ _ (2 * l.length) rfl rfl (by first | rfl | omega | (simp; done)) (by omega) (by simp [maxLen]; omega) (Nat.le_refl _) ?_; intro vo w1 ho hb1 hs1 hvo; clear hvo))
  go_loopw [3, 12] (fun o i wr => ∃ (k : Nat) (L : List Nat), k ≤ l.length ∧ i = .int .i64 (k : Nat) ∧ Own wr w.heap.size 90 .u32 o L ∧ Hid (L.length = 2 * k) ∧ Small H L ∧
      Hid (val H L = val W (l.take k)) ∧ Below w.heap.size w wr) (fun _ i _ => l.length - (intOf i).toNat)
  case atStart => exact ⟨0, [], Nat.zero_le _, rfl, ho, rfl, small_nil _, rfl, hb1⟩
  case round =>
    obtain ⟨k, L, hk, rfl, hown, hLk, hsl, hv, hbel⟩ := hrel
    by_cases hkl : k < l.length
    · obtain ⟨b, off, rfl, hbb, hcell⟩ := a4 (by omega)
      have e0 : wr.cell? ⟨b, off + k, none⟩ = some (.int .u64 (l[k] : Nat)) := (hbel.cell (p := ⟨b, off + k, none⟩) hbb).trans (hcell k hkl)
      have x0 := small_get hs k hkl
      obtain ⟨x, hx⟩ : ∃ x, x = l[k] := ⟨_, rfl⟩
      rw [← hx] at e0 x0
      have Hx := hid hx; clear hx hcell a4
      unfold W at x0
      go_wp2_with (at_builtin; refine wpList_append_at rfl _ _ 75 rfl elemHalves w.heap.size _ L rfl (hown.alloc _) _ [x % 4294967296, x / 4294967296] rfl (At.twoI _ _ _ _ _ _ _ (by first | rfl | omega) (by first | rfl | omega)) (by rw [hLk.out]; simp [maxLen]; omega) (by rw [hLk.out]; simp; omega) (by have := hbel.size; simp; omega) ?_; intro v2 w2 ho2 hb2 hs2)
      go_roundw
      case rel => exact ⟨k + 1, L ++ [x % 4294967296, x / 4294967296], by omega, by go_num, ho2, by have := hLk.out; unfold Hid; simp; omega,
        small_append hsl (small_cons (Nat.mod_lt _ (by decide)) (small_cons (by unfold H; omega) (small_nil _))), split_step hLk.out Hx.out hv.out, (hbel.trans ((below1 _ _).mono hbel.size)).trans hb2⟩
      case measure => (simp [intOf] <;> omega)
    · obtain rfl : k = l.length := by omega
      have hv' : Hid (strip L = dig H (val W l)) := by
        have := hv.out
        rw [List.take_length] at this
        unfold Hid
        rw [← this, strip_dig H2 hsl]
      have hst := strip_length L
      clear a4
      have ho' := hown
      obtain ⟨po, co, rfl, -⟩ := id hown.at
      go_wp2_with (go_at_call 75; refine (htrim_val _ L _ hown.at).mono ?_; rintro e w' ⟨rfl, rfl⟩; simp only [cutTo])
      go_ret
      exact ⟨_, rfl, by rw [← hv'.out]; have := ho'.take (strip L).length hst; rwa [← strip_is_take] at this, hbel⟩
end Go.Proofs.Ytlijekppbpefaaa
/- whole.divideShort: a quotient by one half, in place. -/
namespace Go.Proofs.Ytlijekppbpefaaa
open Go.RowKit Big

theorem Own.shape {w : World} {base : Nat} {e : TypeId} {k : IntKind} {v : Value} {l : List Nat} (h : Own w base e k v l) (hl : 0 < l.length) :
    ∃ g cap, v = .slice (some ⟨g, 0, none⟩) l.length cap ∧ base ≤ g ∧ g < w.heap.size ∧ l.length ≤ cap ∧ cap ≤ maxLen := by
  rcases h.2 with ⟨_, h0⟩ | ⟨g, cap, cur, hv, h1, h2, h3, h4, _⟩
  · omega
  · exact ⟨g, cap, hv, h1, (Array.getElem?_eq_some_iff.1 h2).1, h3, h4⟩
theorem Own.cell {w : World} {base : Nat} {e : TypeId} {k : IntKind} {g n cap : Nat} {l : List Nat} (h : Own w base e k (.slice (some ⟨g, 0, none⟩) n cap) l) (j : Nat) (hj : j < l.length) :
    w.cell? ⟨g, j, none⟩ = some (.int k (l[j] : Nat)) ∧ w.frozen? ⟨g, j, none⟩ = false := by
  have hn : n = l.length := by
    rcases h.2 with ⟨h1, _⟩ | ⟨g, cap, cur, hv, _⟩
    · cases h1
    · cases hv; rfl
  subst hn
  refine ⟨?_, World.ownsRow.frozenAt h j⟩
  rw [World.ownsRow.cellAt h j (by omega)]
  simp [ints, hj]
/-- a store into an owned row -/
theorem Own.set {w : World} {base : Nat} {e : TypeId} {k : IntKind} {g n cap : Nat} {l : List Nat} (h : Own w base e k (.slice (some ⟨g, 0, none⟩) n cap) l) (j x : Nat) :
    Own (w.setCell ⟨g, j, none⟩ (.int k (x : Nat))) base e k (.slice (some ⟨g, 0, none⟩) n cap) (l.set j x) ∧ w.grownBy (w.setCell ⟨g, j, none⟩ (.int k (x : Nat))) (some g) := by
  have hn : n = l.length := by
    rcases h.2 with ⟨h1, _⟩ | ⟨g, cap, cur, hv, _⟩
    · cases h1
    · cases hv; rfl
  subst hn
  have hs := World.ownsRow.stored h j (.int k (x : Nat))
  refine ⟨?_, hs.2⟩
  unfold Own
  rw [List.length_set]
  have e1 : ints k (l.set j x) = (ints k l).set j (.int k (x : Nat)) := by simp [ints, List.map_set]
  rw [e1]; exact hs.1

theorem grown_trans {a b c : World} {row : Option Nat} (h : a.grownBy b row) (k : b.grownBy c row) : a.grownBy c row :=
  ⟨k.os.trans h.os, k.tape.trans h.tape, k.output.trans h.output, Nat.le_trans h.size k.size, fun i hi hne => (k.block i (Nat.lt_of_lt_of_le hi h.size) hne).trans (h.block i hi hne)⟩

theorem or_half (a b : Nat) (ha : a < 4294967296) (hb : b < 4294967296) : bits BinOp.or IntKind.u64 ((a : Int) * 4294967296) (b : Int) = ((a * 4294967296 + b : Nat) : Int) := by
  have h := u64_or_nat (a * 4294967296) b (by omega) (by omega)
  rw [Int.natCast_mul] at h
  rw [show ((a : Int) * 4294967296) = (a : Int) * ((4294967296 : Nat) : Int) by rfl, h]
  have e := Nat.two_pow_add_eq_or_of_lt (i := 32) (b := b) (by simpa using hb) a
  rw [show (2 : Nat) ^ 32 = 4294967296 by rfl, Nat.mul_comm] at e
  rw [← e]
theorem wrap_nat (n : Nat) (h : n < W) : IntKind.u64.wrap (n : Int) = (n : Int) := by
  unfold W at h
  simp only [IntKind.wrap, IntKind.bits, IntKind.signed]
  simp
  omega
theorem set_take {l Q : List Nat} {k : Nat} (hk : k < l.length) (x : Nat) : (l.take (k + 1) ++ Q).set k x = l.take k ++ x :: Q := by
  rw [take_succ' l k hk, List.append_assoc, List.set_append_right _ _ (by simp; omega)]
  have : k - (l.take k).length = 0 := by simp; omega
  rw [this]; rfl
theorem divShort_step {l Q : List Nat} {k x rest d P : Nat} {hk : k < l.length} (hx : x = l[k]) (hP : P = rest * 4294967296 + x)
    (hv : val H l = val H (l.take (k + 1)) + H ^ (k + 1) * (d * val H Q + rest)) : val H l = val H (l.take k) + H ^ k * (d * val H (P / d :: Q) + P % d) := by
  rw [hv, val_take_succ H l k hk, ← hx, Nat.pow_succ, val_cons]
  have e : P = d * (P / d) + P % d := (Nat.div_add_mod P d).symm
  have e2 : d * (P / d) + P % d = rest * H + x := by rw [← e, hP]; rfl
  generalize P / d = q at *
  generalize P % d = r at *
  have : H ^ k * (d * (q + H * val H Q) + r) = H ^ k * (rest * H + x) + H ^ k * (d * (H * val H Q)) := by rw [← e2]; grind
  rw [this]; grind
theorem div_lt_half {P d rest x : Nat} (hP : P = rest * 4294967296 + x) (hr : rest < d) (hx : x < 4294967296) : P / d < 4294967296 := by
  rw [Nat.div_lt_iff_lt_mul (by omega)]
  have : (rest + 1) * 4294967296 ≤ d * 4294967296 := Nat.mul_le_mul_right _ hr
  rw [Nat.mul_comm 4294967296 d]
  omega

set_option maxRecDepth 100000 in
set_option maxHeartbeats 1600000 in
theorem divideShort_any (B : Nat) (v : Value) (l : List Nat) (d : Nat) (w : World) (h : Own w B 90 .u32 v l) (hs : Small H l) (hd0 : 0 < d) (hd : d < H) :
    Calls Try.prog 74 #[v, .int .u32 (d : Nat)] w (fun e w' => e = .returned (.tuple #[cutTo v (sz H (val H l / d)), .int .u32 (val H l % d : Nat)]) ∧
      Own w' B 90 .u32 (cutTo v (sz H (val H l / d))) (dig H (val H l / d)) ∧ w.grownBy w' v.ownBlock) := by
  by_cases hl : 0 < l.length
  · obtain ⟨g, cap, rfl, hBg, hg, hc1, hc2⟩ := h.shape hl
    unfold maxLen at hc2
    unfold H at hd
    go_enter Try.func74, Try.ntmps74
    go_wp2_with fail
    go_loopw [6, 7] (fun r i wr => ∃ (k rest : Nat) (Q : List Nat), k ≤ l.length ∧ i = .int .i64 ((k : Int) - 1) ∧ r = .int .u64 (rest : Nat) ∧ rest < d ∧ Hid (k + Q.length = l.length) ∧ Small H Q ∧
        Own wr B 90 .u32 (.slice (some ⟨g, 0, none⟩) l.length cap) (l.take k ++ Q) ∧ Hid (val H l = val H (l.take k) + H ^ k * (d * val H Q + rest)) ∧ w.grownBy wr (some g)) (fun _ i _ => (intOf i + 1).toNat)
    case atStart => exact ⟨l.length, 0, [], Nat.le_refl _, rfl, rfl, hd0, rfl, small_nil _, by simpa using h, by unfold Hid; simp [val], World.grownBy.refl _ _⟩
    case round =>
      obtain ⟨k, rest, Q, hk, rfl, rfl, hr, hQ, hsQ, hown, hv, hgr⟩ := hrel
      by_cases hk0 : 0 < k
      · obtain ⟨k, rfl⟩ : ∃ k', k = k' + 1 := ⟨k - 1, by omega⟩
        have hkl : k < (l.take (k + 1) ++ Q).length := by simp; omega
        obtain ⟨c0, f0⟩ := hown.cell k hkl
        have ex : (l.take (k + 1) ++ Q)[k] = l[k]'(by omega) := by rw [List.getElem_append_left (by simp; omega), List.getElem_take]
        have x0 := small_get hs k (by omega)
        rw [ex] at c0
        obtain ⟨x, hx⟩ : ∃ x, x = l[k]'(by omega) := ⟨_, rfl⟩
        rw [← hx] at c0 x0
        have Hx := hid hx
        unfold H at x0
        clear hx ex
        go_wp2
        obtain ⟨P, hP⟩ : ∃ P, P = rest * 4294967296 + x := ⟨_, rfl⟩
        have hor := or_half rest x (by omega) x0
        rw [← hP] at hor
        have q0 := div_lt_half hP hr x0
        have r0 : P % d < d := Nat.mod_lt _ hd0
        have hm : (bits BinOp.or IntKind.u64 ((rest : Int) * 4294967296) (x : Int)).tmod (d : Int) = ((P % d : Nat) : Int) := by rw [hor]; rfl
        have hd' : IntKind.u64.wrap ((bits BinOp.or IntKind.u64 ((rest : Int) * 4294967296) (x : Int)).tdiv (d : Int)) % 4294967296 = ((P / d : Nat) : Int) := by
          rw [hor, show ((P : Nat) : Int).tdiv (d : Int) = ((P / d : Nat) : Int) from rfl, wrap_nat _ (by unfold W; omega)]
          generalize P / d = qq at *
          omega
        have HP := hid hP
        clear hP hor
        obtain ⟨q, hq⟩ : ∃ q, q = P / d := ⟨_, rfl⟩
        obtain ⟨r, hr'⟩ : ∃ r, r = P % d := ⟨_, rfl⟩
        rw [← hq] at q0 hd'
        rw [← hr'] at r0 hm
        have Hq := hid hq; have Hr := hid hr'; have Hm := hid hm; have Hd := hid hd'
        clear hq hr' hm hd'
        go_wp2
        rw [Hm.out, Hd.out]
        have hset := hown.set k q
        have hlist := set_take (Q := Q) (show k < l.length by omega) q
        rw [hlist] at hset
        go_roundw
        case rel => exact ⟨k, r, q :: Q, by omega, rfl, rfl, r0, by have := hQ.out; unfold Hid; simp; omega, small_cons q0 hsQ, hset.1,
          by have := divShort_step (hk := by omega) Hx.out HP.out hv.out; rw [← Hq.out, ← Hr.out] at this; exact this, grown_trans hgr hset.2⟩
        case measure => (simp [intOf] <;> omega)
      · obtain rfl : k = 0 := by omega
        have hv' : val H l = d * val H Q + rest := by have := hv.out; simpa [val] using this
        have e1 : val H l / d = val H Q := by
          rw [hv', Nat.mul_add_div hd0, Nat.div_eq_of_lt hr, Nat.add_zero]
        have e2 : val H l % d = rest := by rw [hv', Nat.mul_add_mod, Nat.mod_eq_of_lt hr]
        rw [List.take_zero, List.nil_append] at hown
        have hst : Hid (strip Q = dig H (val H l / d)) := by unfold Hid; rw [e1, strip_dig H2 hsQ]
        have hsz : Hid ((strip Q).length = sz H (val H l / d)) := by unfold Hid sz; rw [hst.out]
        have E2 := hid e2
        have ht := htrim_val _ Q wr hown.at
        have Ht := hid ht
        have hstl := strip_length Q
        clear e1 e2 hv' hv ht
        have hrest : rest < 4294967296 := by omega
        go_wp2_with (go_at_call 75; refine Ht.out.mono ?_; rintro e w' ⟨rfl, rfl⟩; simp only [cutTo])
        go_ret2
        refine ⟨?_, ?_, hgr⟩
        · rw [← hsz.out, E2.out]; rfl
        · rw [← hsz.out, ← hst.out]
          have := hown.take (strip Q).length hstl
          rwa [← strip_is_take] at this
  · have hl0 : l = [] := List.eq_nil_of_length_eq_zero (by omega)
    subst hl0
    have ho := hid h
    obtain ⟨p, c, rfl, b1, b2, b3, -⟩ := h.at
    have ht := htrim_val _ [] w h.at
    have Ht := hid ht
    clear ht h
    have hstrip : (strip []).length = 0 := rfl
    rw [hstrip] at Ht
    clear hstrip
    simp only [List.length_nil] at *
    go_enter Try.func74, Try.ntmps74
    go_wp2_with fail
    refine wp_loop_rounds 1 ?_
    rw [rounds_succ]
    go_wp2_with (go_at_call 75; refine Ht.out.mono ?_; rintro e w' ⟨rfl, rfl⟩; simp only [cutTo])
    go_ret2
    have e1 : val H [] / d = 0 := by simp [val]
    have e2 : val H [] % d = 0 := by simp [val]
    refine ⟨?_, ?_, World.grownBy.refl _ _⟩
    · rw [e1, e2]; rfl
    · rw [e1]; exact ho.out
end Go.Proofs.Ytlijekppbpefaaa
/- whole.join: halves of words as words. -/
namespace Go.Proofs.Ytlijekppbpefaaa
open Go.RowKit Big

theorem half_or (a b : Nat) (ha : a < 4294967296) (hb : b < 4294967296) : bits BinOp.or IntKind.u64 (b : Int) ((a : Int) * 4294967296) = ((a * 4294967296 + b : Nat) : Int) := by
  have h := u64_or_nat b (a * 4294967296) (by omega) (by omega)
  rw [Int.natCast_mul] at h
  rw [show ((a : Int) * 4294967296) = (a : Int) * ((4294967296 : Nat) : Int) by rfl, h]
  have e := Nat.two_pow_add_eq_or_of_lt (i := 32) (b := b) (by simpa using hb) a
  rw [show (2 : Nat) ^ 32 = 4294967296 by rfl, Nat.mul_comm] at e
  rw [e, Nat.or_comm]

theorem join_step {L l : List Nat} {j x y : Nat} (hL : L.length = j) (hx : x = l[2 * j]?.getD 0) (hy : y = l[2 * j + 1]?.getD 0) (hv : val W L = val H (l.take (2 * j))) :
    val W (L ++ [y * 4294967296 + x]) = val H (l.take (2 * j + 2)) := by
  rw [show 2 * j + 2 = 2 * j + 1 + 1 by rfl, val_take_getD, val_take_getD, val_snoc, hv, hL, ← hx, ← hy, Nat.pow_succ, show H ^ (2 * j) = W ^ j by rw [Nat.pow_mul]; rfl]
  have : W ^ j * (y * 4294967296 + x) = W ^ j * x + W ^ j * H * y := by unfold H; grind
  rw [this]; omega

set_option maxRecDepth 100000 in
set_option maxHeartbeats 1600000 in
theorem join_any (v : Value) (n : Nat) (w : World) (h : At w .u32 v (dig H n)) (hlen : sz H n ≤ 4398046511104) :
    Calls Try.prog 60 #[v] w (ROwn 43 .u64 (dig W n) w) := by
  have hs := small_dig H2 n
  have hvn := val_dig H2 n
  have hl : (dig H n).length = sz H n := rfl
  have hp := fun h0 => pow_sz_le H2 (n := n) h0
  have hz : n = 0 → (dig H n).length = 0 := fun e => by rw [e]; rfl
  generalize sz H n = N at *
  generalize dig H n = l at *
  have Hvn := hid hvn; have Hp := hid hp; have Hz := hid hz
  clear hvn hp hz
  obtain ⟨p, cap, rfl, a1, a2, a3, a4⟩ := h
  unfold maxLen at a2
  go_enter Try.func60, Try.ntmps60
  go_wp2_with (first
    | (at_make; refine wpList_make_at rfl _ _ 23 rfl elemNat w.heap.size _ _ _ ((l.length + 1) / 2) rfl rfl (by first | rfl | omega | (simp; done)) (by omega) (by simp [maxLen]; omega) (Nat.le_refl _) ?_; intro vo w1 ho hb1 hs1 hvo; clear hvo))
  go_loopw [3, 4] (fun o i wr => ∃ (j k : Nat) (L : List Nat), Hid (k = 2 * j) ∧ k ≤ l.length + 1 ∧ i = .int .i64 (k : Nat) ∧ Own wr w.heap.size 43 .u64 o L ∧ Hid (L.length = j) ∧ j ≤ k ∧ Small W L ∧
      Hid (val W L = val H (l.take k)) ∧ Below w.heap.size w wr) (fun _ i _ => l.length + 2 - (intOf i).toNat)
  case atStart => exact ⟨0, 0, [], rfl, by omega, rfl, ho, rfl, by omega, small_nil _, rfl, hb1⟩
  case round =>
    obtain ⟨j, k, L, hkj, hk, rfl, hown, hLj, hjk, hsl, hv, hbel⟩ := hrel
    by_cases hkl : k < l.length
    · obtain ⟨b, off, rfl, hbb, hcell⟩ := a4 (by omega)
      have e0 : wr.cell? ⟨b, off + k, none⟩ = some (.int .u32 (l[k] : Nat)) := (hbel.cell (p := ⟨b, off + k, none⟩) hbb).trans (hcell k hkl)
      have x0 := small_get hs k hkl
      obtain ⟨x, hx⟩ : ∃ x, x = l[k] := ⟨_, rfl⟩
      rw [← hx] at e0 x0
      have Hx : Hid (x = l[2 * j]?.getD 0) := by unfold Hid; rw [← hkj.out]; simp [hkl, hx]
      clear hx
      unfold H at x0
      by_cases hk1 : k + 1 < l.length
      · have e1 : wr.cell? ⟨b, off + (k + 1), none⟩ = some (.int .u32 (l[k + 1] : Nat)) := (hbel.cell (p := ⟨b, off + (k + 1), none⟩) hbb).trans (hcell (k + 1) hk1)
        have y0 := small_get hs (k + 1) hk1
        obtain ⟨y, hy⟩ : ∃ y, y = l[k + 1] := ⟨_, rfl⟩
        rw [← hy] at e1 y0
        have Hy : Hid (y = l[2 * j + 1]?.getD 0) := by unfold Hid; rw [← hkj.out]; simp [hk1, hy]
        clear hy hcell a4
        unfold H at y0
        have hor := half_or y x y0 x0
        go_wp2_with (at_builtin; refine wpList_append_at rfl _ _ 23 rfl elemNat w.heap.size _ L rfl (hown.alloc _) _ [y * 4294967296 + x] rfl (At.oneI _ _ _ _ _ (by first | exact hor | (rw [hor]; done) | omega)) (by rw [hLj.out]; simp [maxLen]; omega) (by rw [hLj.out]; simp; omega) (by have := hbel.size; simp; omega) ?_; intro v2 w2 ho2 hb2 hs2)
        go_roundw
        case rel => exact ⟨j + 1, k + 2, L ++ [y * 4294967296 + x], by have := hkj.out; unfold Hid; omega, by omega, by go_num, ho2, by have := hLj.out; unfold Hid; simp; omega, by omega, small_snoc hsl (by unfold W; omega),
          by have := join_step hLj.out Hx.out Hy.out (by rw [← hkj.out]; exact hv.out); rw [← hkj.out] at this; exact this, (hbel.trans ((below1 _ _).mono hbel.size)).trans hb2⟩
        case measure => (simp [intOf] <;> omega)
      · have Hy : Hid (0 = l[2 * j + 1]?.getD 0) := by unfold Hid; rw [← hkj.out, List.getElem?_eq_none (by omega)]; rfl
        clear hcell a4
        go_wp2_with (at_builtin; refine wpList_append_at rfl _ _ 23 rfl elemNat w.heap.size _ L rfl (hown.alloc _) _ [0 * 4294967296 + x] rfl (At.oneI _ _ _ _ _ (by omega)) (by rw [hLj.out]; simp [maxLen]; omega) (by rw [hLj.out]; simp; omega) (by have := hbel.size; simp; omega) ?_; intro v2 w2 ho2 hb2 hs2)
        go_roundw
        case rel => exact ⟨j + 1, k + 2, L ++ [0 * 4294967296 + x], by have := hkj.out; unfold Hid; omega, by omega, by go_num, ho2, by have := hLj.out; unfold Hid; simp; omega, by omega, small_snoc hsl (by unfold W; omega),
          by have := join_step hLj.out Hx.out Hy.out (by rw [← hkj.out]; exact hv.out); rw [← hkj.out] at this; exact this, (hbel.trans ((below1 _ _).mono hbel.size)).trans hb2⟩
        case measure => (simp [intOf] <;> omega)
    · have hv' : Hid (L = dig W n) := by
        have e := hv.out
        rw [val_take_ge _ _ _ (by omega), Hvn.out] at e
        unfold Hid
        refine canon_val W2 hsl e ?_
        by_cases hj0 : j = 0
        · left; exact List.eq_nil_of_length_eq_zero (by rw [hLj.out, hj0])
        · right
          have hpos : 0 < n := by
            rcases Nat.eq_zero_or_pos n with h0 | h0
            · exfalso
              have := hkj.out
              have := Hz.out h0
              omega
            · exact h0
          have hp := Hp.out hpos
          rw [hLj.out]
          refine Nat.le_trans ?_ hp
          rw [show W ^ (j - 1) = H ^ (2 * (j - 1)) by rw [Nat.pow_mul]; rfl]
          exact Nat.pow_le_pow_right (by decide) (by have := hkj.out; omega)
      clear a4 hkj hv Hp Hvn
      go_wp2
      go_ret
      exact ⟨_, rfl, by rw [← hv'.out]; exact hown, hbel⟩
end Go.Proofs.Ytlijekppbpefaaa
/- whole.timesPlus: halves so many times as great, and more, in place. -/
namespace Go.Proofs.Ytlijekppbpefaaa
open Go.RowKit Big

theorem set_drop {l Q : List Nat} {k : Nat} (hQ : Q.length = k) (hk : k < l.length) (x : Nat) : (Q ++ l.drop k).set k x = (Q ++ [x]) ++ l.drop (k + 1) := by
  rw [List.set_append_right _ _ (by omega), hQ, Nat.sub_self, List.drop_eq_getElem_cons hk]
  simp only [List.set_cons_zero, List.append_assoc, List.singleton_append]
theorem timesPlus_step {l Q : List Nat} {k x f m c P : Nat} {hk : k < l.length} (hQ : Q.length = k) (hx : x = l[k]) (hP : P = x * f + c) (hv : val H Q + c * H ^ k = f * val H (l.take k) + m) :
    val H (Q ++ [P % 4294967296]) + P / 4294967296 * H ^ (k + 1) = f * val H (l.take (k + 1)) + m := by
  rw [val_snoc, val_take_succ H l k hk, hQ, ← hx, Nat.pow_succ]
  have e : P = P % 4294967296 + H * (P / 4294967296) := by unfold H; omega
  have e2 : P % 4294967296 + H * (P / 4294967296) = x * f + c := by rw [← e, hP]
  generalize P % 4294967296 = r at *
  generalize P / 4294967296 = q at *
  have : H ^ k * (r + H * q) = H ^ k * (x * f + c) := by rw [e2]
  grind
theorem prod_lt {x f c : Nat} (hx : x < 4294967296) (hf : f < 4294967296) (hc : c < 4294967296) : x * f ≤ 18446744065119617025 ∧ x * f + c < 18446744073709551616 ∧ (x * f + c) / 4294967296 < 4294967296 := by
  have h : x * f ≤ 4294967295 * 4294967295 := Nat.mul_le_mul (by omega) (by omega)
  omega

end Go.Proofs.Ytlijekppbpefaaa
/- whole.timesHalves: products of halves of words. -/
namespace Go.Proofs.Ytlijekppbpefaaa
open Go.RowKit Big

theorem val_set (B : Nat) : ∀ (l : List Nat) (k x : Nat) (h : k < l.length), val B (l.set k x) + B ^ k * l[k] = val B l + B ^ k * x
  | [], k, x, h => absurd h (by simp)
  | y :: l, 0, x, _ => by simp [val]; omega
  | y :: l, k + 1, x, h => by
    have ih := val_set B l k x (by simpa using h)
    simp only [List.set_cons_succ, val, List.getElem_cons_succ, Nat.pow_succ]
    have : B * (val B (l.set k x) + B ^ k * l[k]'(by simpa using h)) = B * (val B l + B ^ k * x) := by rw [ih]
    grind
theorem small_set {B : Nat} {l : List Nat} (h : Small B l) (k : Nat) {x : Nat} (hx : x < B) : Small B (l.set k x) := by
  intro y hy
  rcases List.mem_or_eq_of_mem_set hy with h1 | h1
  · exact h y h1
  · rw [h1]; exact hx
/-- one step of a row: the product's digit, what lies there, and the carry -/
theorem times_step {O : List Nat} {k x y c P Va Vb HI HJ : Nat} (hk : k < O.length) (hP : P = x * y + O[k] + c) (hHk : H ^ k = HI * HJ)
    (hv : val H O + c * H ^ k = Va + HI * (x * Vb)) : val H (O.set k (P % 4294967296)) + P / 4294967296 * H ^ (k + 1) = Va + HI * (x * (Vb + HJ * y)) := by
  have h1 := val_set H O k (P % 4294967296) hk
  have e2 : P % 4294967296 + H * (P / 4294967296) = x * y + O[k] + c := by rw [← hP]; unfold H; omega
  rw [Nat.pow_succ]
  generalize val H (O.set k (P % 4294967296)) = V' at *
  generalize O[k] = o at *
  generalize P % 4294967296 = r at *
  generalize P / 4294967296 = q at *
  have e3 : H ^ k * (r + H * q) = H ^ k * (x * y + o + c) := by rw [e2]
  have e4 : V' + H ^ k * o + q * (H ^ k * H) = Va + HI * (x * Vb) + H ^ k * (x * y) + H ^ k * o := by grind
  rw [hHk] at e4 ⊢
  grind
theorem mulsum_lt {x y o c : Nat} (hx : x < 4294967296) (hy : y < 4294967296) (ho : o < 4294967296) (hc : c < 4294967296) :
    x * y ≤ 18446744065119617025 ∧ x * y + o + c < 18446744073709551616 ∧ (x * y + o + c) / 4294967296 < 4294967296 := by
  have h : x * y ≤ 4294967295 * 4294967295 := Nat.mul_le_mul (by omega) (by omega)
  omega
end Go.Proofs.Ytlijekppbpefaaa
/- whole.timesHalves: the walk. -/
namespace Go.Proofs.Ytlijekppbpefaaa
open Go.RowKit Big

theorem val_zeros (B n : Nat) : val B (List.replicate n 0) = 0 := by
  induction n with
  | zero => rfl
  | succ n ih => rw [List.replicate_succ, val_cons, ih]; simp
theorem small_zeros {B : Nat} (hB : 0 < B) (n : Nat) : Small B (List.replicate n 0) := fun x hx => by rw [List.eq_of_mem_replicate hx]; exact hB

set_option maxRecDepth 100000 in
set_option maxHeartbeats 3200000 in
theorem timesHalves_any (v0 v1 : Value) (l0 l1 : List Nat) (w : World) (h0 : At w .u32 v0 l0) (h1 : At w .u32 v1 l1) (s0 : Small H l0) (s1 : Small H l1)
    (hl0 : l0.length ≤ 4398046511104) (hl1 : l1.length ≤ 4398046511104) : Calls Try.prog 72 #[v0, v1] w (ROwn 90 .u32 (dig H (val H l0 * val H l1)) w) := by
  obtain ⟨p0, c0, rfl, a1, a2, a3, a4⟩ := h0
  obtain ⟨p1, c1, rfl, b1, b2, b3, b4⟩ := h1
  unfold maxLen at a2 b2
  go_enter Try.func72, Try.ntmps72
  go_wp2_with (first
    | (at_make; refine wpList_full_at rfl _ _ 75 rfl elemHalves w.heap.size _ _ _ _ (l0.length + l1.length) rfl rfl (by first | rfl | omega | (simp; done)) (by first | rfl | omega | (simp; done)) (by omega) (by simp [maxLen]; omega) (Nat.le_refl _) ?_; intro vo w1 ho hb1 hs1 hvo; subst hvo))
  go_loopw [20] (fun i wr => ∃ (k : Nat) (O : List Nat), k ≤ l0.length ∧ i = .int .i64 (k : Nat) ∧ Own wr w.heap.size 90 .u32 (.slice (some ⟨w.heap.size, 0, none⟩) (l0.length + l1.length) (l0.length + l1.length)) O ∧ Hid (O.length = l0.length + l1.length) ∧ Small H O ∧
      Hid (∀ j, k + l1.length ≤ j → O[j]?.getD 0 = 0) ∧ Hid (val H O = val H (l0.take k) * val H l1) ∧ Below w.heap.size w wr ∧ w.heap.size ≤ wr.heap.size) (fun i _ => l0.length - (intOf i).toNat)
  case atStart => exact ⟨0, List.replicate (l0.length + l1.length) 0, Nat.zero_le _, rfl, ho, by simp [Hid], small_zeros (by decide) _, by unfold Hid; intro j _; simp [List.getElem?_replicate]; split <;> rfl, by unfold Hid; simp [val_zeros, val], hb1, hs1⟩
  case round =>
    obtain ⟨k, O, hk, rfl, hown, hO, hsO, hz, hv, hbel, hsz⟩ := hrel
    by_cases hkl : k < l0.length
    · obtain ⟨b, off, rfl, hbb, hcell⟩ := a4 (by omega)
      have e0 : wr.cell? ⟨b, off + k, none⟩ = some (.int .u32 (l0[k] : Nat)) := (hbel.cell (p := ⟨b, off + k, none⟩) hbb).trans (hcell k hkl)
      have x0 := small_get s0 k hkl
      obtain ⟨x, hx⟩ : ∃ x, x = l0[k] := ⟨_, rfl⟩
      rw [← hx] at e0 x0
      have Hx := hid hx; clear hx hcell a4
      unfold H at x0
      go_wp2_with fail
      go_loopw [8, 27] (fun c j wq => ∃ (i c' : Nat) (Q : List Nat), i ≤ l1.length ∧ j = .int .i64 (i : Nat) ∧ c = .int .u64 (c' : Nat) ∧ c' < 4294967296 ∧ Own wq w.heap.size 90 .u32 (.slice (some ⟨w.heap.size, 0, none⟩) (l0.length + l1.length) (l0.length + l1.length)) Q ∧ Hid (Q.length = l0.length + l1.length) ∧ Small H Q ∧
        Hid (∀ j, k + l1.length ≤ j → Q[j]?.getD 0 = 0) ∧ Hid (val H Q + c' * H ^ (k + i) = val H (l0.take k) * val H l1 + H ^ k * (x * val H (l1.take i))) ∧ Below w.heap.size w wq ∧ w.heap.size ≤ wq.heap.size) (fun _ j _ => l1.length - (intOf j).toNat)
      case atStart => exact ⟨0, 0, O, Nat.zero_le _, rfl, rfl, by omega, hown, hO, hsO, hz, by have := hv.out; unfold Hid; simp [val, this], hbel, hsz⟩
      case round =>
        obtain ⟨i, c', Q, hi, rfl, rfl, hc', hown', hQ, hsQ, hzQ, hvQ, hbel', hsz'⟩ := hrel
        by_cases hil : i < l1.length
        · obtain ⟨b', off', rfl, hbb', hcell'⟩ := b4 (by omega)
          have e1 := (hbel'.cell (p := ⟨b', off' + i, none⟩) hbb').trans (hcell' i hil)
          have y0 := small_get s1 i hil
          obtain ⟨y, hy⟩ : ∃ y, y = l1[i] := ⟨_, rfl⟩
          rw [← hy] at e1 y0
          have Hy := hid hy; clear hy hcell' b4
          unfold H at y0
          have hkq : k + i < Q.length := by rw [hQ.out]; omega
          obtain ⟨cc0, f0⟩ := hown'.cell (k + i) hkq
          have o0 := small_get hsQ (k + i) hkq
          obtain ⟨o, ho'⟩ : ∃ o, o = Q[k + i] := ⟨_, rfl⟩
          rw [← ho'] at cc0 o0
          have Ho := hid ho'; clear ho'
          unfold H at o0
          obtain ⟨m1, m2, m3⟩ := mulsum_lt x0 y0 o0 hc'
          obtain ⟨P, hP⟩ : ∃ P, P = x * y + o + c' := ⟨_, rfl⟩
          rw [← hP] at m2 m3
          have q1 : (x : Int) * (y : Int) ≤ 18446744065119617025 := by
            have : ((x * y : Nat) : Int) ≤ 18446744065119617025 := by omega
            rwa [Int.natCast_mul] at this
          have q2 : 0 ≤ (x : Int) * (y : Int) := by rw [← Int.natCast_mul]; omega
          have q3 : (x : Int) * (y : Int) + (o : Int) + (c' : Int) = (P : Int) := by rw [hP]; simp
          have q4 : (x : Int) * (y : Int) + (o : Int) + (c' : Int) ≤ 18446744073709551615 := by rw [q3]; omega
          have HP := hid hP; have Q3 := hid q3
          clear hP q3
          go_wp2
          have r1 : ((x : Int) * (y : Int) + (o : Int) + (c' : Int)) / 4294967296 = ((P / 4294967296 : Nat) : Int) := by rw [Q3.out]; omega
          have r2 : ((x : Int) * (y : Int) + (o : Int) + (c' : Int)) % 4294967296 = ((P % 4294967296 : Nat) : Int) := by rw [Q3.out]; omega
          rw [r1, r2]
          have hset := hown'.set (k + i) (P % 4294967296)
          have hz' : ∀ j, k + l1.length ≤ j → (Q.set (k + i) (P % 4294967296))[j]?.getD 0 = 0 := fun j hj => by
            rw [List.getElem?_set_ne (by omega)]; exact hzQ.out j hj
          have hv' : val H (Q.set (k + i) (P % 4294967296)) + P / 4294967296 * H ^ (k + (i + 1)) = val H (l0.take k) * val H l1 + H ^ k * (x * val H (l1.take (i + 1))) := by
            have := times_step (HI := H ^ k) (HJ := H ^ i) (y := y) hkq (show P = x * y + Q[k + i] + c' by rw [← Ho.out]; exact HP.out) (Nat.pow_add ..) hvQ.out
            rw [val_take_succ H l1 i hil, ← Hy.out]
            exact this
          go_roundw
          case rel => exact ⟨i + 1, P / 4294967296, Q.set (k + i) (P % 4294967296), by omega, by go_num, rfl, m3, hset.1, by unfold Hid; rw [List.length_set]; exact hQ.out, small_set hsQ _ (Nat.mod_lt _ (by decide)), hz', hv',
            hbel'.setCell (p := ⟨w.heap.size, k + i, none⟩) (Nat.le_refl _) _, by simpa [World.setCell] using hsz'⟩
          case measure => (simp [intOf] <;> omega)
        · obtain rfl : i = l1.length := by omega
          have hkq : k + l1.length < Q.length := by rw [hQ.out]; omega
          obtain ⟨cc0, f0⟩ := hown'.cell (k + l1.length) hkq
          have o0 : Q[k + l1.length] = 0 := by have := hzQ.out (k + l1.length) (Nat.le_refl _); simpa [hkq] using this
          have hvs := val_set H Q (k + l1.length) c' hkq
          rw [o0, Nat.mul_zero, Nat.add_zero] at hvs
          have hset := hown'.set (k + l1.length) c'
          have hv' : val H (Q.set (k + l1.length) c') = val H (l0.take (k + 1)) * val H l1 := by
            have := hvQ.out
            rw [List.take_length] at this
            rw [hvs, val_take_succ H l0 k hkl, ← Hx.out, Nat.add_mul, Nat.mul_comm (H ^ (k + l1.length)), this, Nat.mul_assoc]
          have hz' : ∀ j, k + 1 + l1.length ≤ j → (Q.set (k + l1.length) c')[j]?.getD 0 = 0 := fun j hj => by
            rw [List.getElem?_set_ne (by omega)]; exact hzQ.out j (by omega)
          have HV := hid hv'
          clear hvs hv' o0 b4
          have hmod : (c' : Int) % 4294967296 = (c' : Int) := by omega
          go_wp2
          first | rw [hmod] | skip
          go_roundw
          case rel => exact ⟨k + 1, Q.set (k + l1.length) c', by omega, by go_num, hset.1, by unfold Hid; rw [List.length_set]; exact hQ.out, small_set hsQ _ (show c' < 4294967296 from hc'), hz', HV.out,
            hbel'.setCell (p := ⟨w.heap.size, k + l1.length, none⟩) (Nat.le_refl _) _, by simpa [World.setCell] using hsz'⟩
          case measure => (simp [intOf] <;> omega)
    · obtain rfl : k = l0.length := by omega
      have hv' : Hid (strip O = dig H (val H l0 * val H l1)) := by
        have := hv.out
        rw [List.take_length] at this
        unfold Hid
        rw [← this, strip_dig H2 hsO]
      have hst := strip_length O
      have ht := hid (htrim_val _ O wr hown.at)
      clear a4 b4
      go_wp2_with (go_at_call 75; refine ht.out.mono ?_; rintro e w' ⟨rfl, rfl⟩; simp only [cutTo])
      go_ret
      exact ⟨_, rfl, by rw [← hv'.out]; have := hown.take (strip O).length hst; rwa [← strip_is_take] at this, hbel⟩
end Go.Proofs.Ytlijekppbpefaaa
/- elenchusref01.trim: what is left is the digits without the noughts at the end. -/
namespace Go.Proofs.Ytlijekppbpefaaa
open Go.RowKit Big

set_option maxHeartbeats 400000 in
theorem rtrim_val (v : Value) (l : List Nat) (w : World) (h : At w .i64 v l) :
    Calls Try.prog 64 #[v] w (fun e w' => e = .returned (cutTo v (strip l).length) ∧ w' = w) := by
  obtain ⟨p, cap, rfl, h1, h2, h3, h4⟩ := h
  unfold maxLen at h2
  go_enter Try.func64, Try.ntmps64
  go_wp2
  go_loop [0] (fun s => ∃ k : Nat, k ≤ l.length ∧ s = .slice p k cap ∧ strip (l.take k) = strip l) (fun s => lenOf s)
  case atStart => exact ⟨l.length, Nat.le_refl _, rfl, by rw [List.take_length]⟩
  case round =>
    obtain ⟨k, hk, rfl, hs⟩ := hrel
    have Hs := hid hs; clear hs
    by_cases hk0 : 0 < k
    · obtain ⟨b, off, rfl, hb, hc⟩ := h4 (by omega)
      have hck : w.cell? ⟨b, off + (k - 1), none⟩ = some (.int .i64 (l[k-1]'(by omega) : Nat)) := hc (k - 1) (by omega)
      clear hc h4
      go_wp2
      · go_round
        case rel =>
          have hz : ((l[k-1]'(by omega) : Nat) == 0) = true := by simpa using ‹((l[k-1]'(by omega) : Nat) == (0 : Int)) = true›
          refine ⟨k - 1, by omega, rfl, ?_⟩
          rw [← Hs.out, ← strip_take (k := k - 1) (by omega) (by simpa using hz), Nat.sub_add_cancel hk0]
        case measure => simp [lenOf]; omega
      · have hz : ¬ (l[k-1]'(by omega) : Nat) = 0 := by
          have := ‹((l[k-1]'(by omega) : Nat) == (0 : Int)) = false›
          simpa using this
        have hs := strip_take_ne (l := l) (k := k - 1) (by omega) hz
        rw [Nat.sub_add_cancel hk0, Hs.out] at hs
        go_ret
        exact ⟨by rw [hs, List.length_take, Nat.min_eq_left hk]; rfl, rfl⟩
    · obtain rfl : k = 0 := by omega
      have hs : Hid (strip l = []) := by rw [← Hs.out]; rfl
      go_wp2
      go_ret
      exact ⟨by rw [hs.out]; rfl, rfl⟩
theorem rtrim_any (v : Value) (l : List Nat) (w : World) (h : At w .i64 v l) : Calls Try.prog 64 #[v] w (RSame .i64 (strip l) w) :=
  (rtrim_val v l w h).mono fun _ _ ⟨he, hw⟩ => ⟨_, he, by subst hw; exact h.strip, hw.symm⟩
end Go.Proofs.Ytlijekppbpefaaa
/- elenchusref01.at, Digits. -/
namespace Go.Proofs.Ytlijekppbpefaaa
open Go.RowKit Big

set_option maxHeartbeats 400000 in
theorem at_any (v : Value) (l : List Nat) (i : Nat) (w : World) (h : At w .i64 v l) :
    Calls Try.prog 77 #[v, .int .i64 (i : Nat)] w fun e w' => e = .returned (.int .i64 (l[i]?.getD 0 : Nat)) ∧ w' = w := by
  obtain ⟨p, cap, rfl, h1, h2, h3, h4⟩ := h
  unfold maxLen at h2
  by_cases hi : i < l.length
  · obtain ⟨b, off, rfl, hb, hc⟩ := h4 (by omega)
    have hck := hc i hi
    have he : Hid (l[i]?.getD 0 = l[i]) := by unfold Hid; simp [hi]
    generalize l[i] = x at *
    clear hc h4
    go_enter Try.func77, Try.ntmps77
    go_wp2
    go_ret
    exact ⟨by rw [he.out]; rfl, rfl⟩
  · have he : Hid (l[i]?.getD 0 = 0) := by unfold Hid; simp [Nat.le_of_not_lt hi]
    clear h4
    go_enter Try.func77, Try.ntmps77
    go_wp2
    go_ret
    exact ⟨by rw [he.out]; rfl, rfl⟩

theorem digit_step0 {M : List Nat} {k x V : Nat} (h : M.length = 4 * k + 0) (hv : val D M = V + D ^ (4 * k) * (x % D ^ 0)) : val D (M ++ [x % 65536]) = V + D ^ (4 * k) * (x % D ^ 1) := by
  rw [val_snoc, hv, h, Nat.pow_add]
  have e : x % D ^ 1 = x % D ^ 0 + D ^ 0 * (x % 65536) := by unfold D; omega
  rw [e]; grind
theorem digit_step1 {M : List Nat} {k x V : Nat} (h : M.length = 4 * k + 1) (hv : val D M = V + D ^ (4 * k) * (x % D ^ 1)) : val D (M ++ [x / 65536 % 65536]) = V + D ^ (4 * k) * (x % D ^ 2) := by
  rw [val_snoc, hv, h, Nat.pow_add]
  have e : x % D ^ 2 = x % D ^ 1 + D ^ 1 * (x / 65536 % 65536) := by unfold D; omega
  rw [e]; grind
theorem digit_step2 {M : List Nat} {k x V : Nat} (h : M.length = 4 * k + 2) (hv : val D M = V + D ^ (4 * k) * (x % D ^ 2)) : val D (M ++ [x / 4294967296 % 65536]) = V + D ^ (4 * k) * (x % D ^ 3) := by
  rw [val_snoc, hv, h, Nat.pow_add]
  have e : x % D ^ 3 = x % D ^ 2 + D ^ 2 * (x / 4294967296 % 65536) := by unfold D; omega
  rw [e]; grind
theorem digit_step3 {M : List Nat} {k x V : Nat} (h : M.length = 4 * k + 3) (hv : val D M = V + D ^ (4 * k) * (x % D ^ 3)) : val D (M ++ [x / 281474976710656 % 65536]) = V + D ^ (4 * k) * (x % D ^ 4) := by
  rw [val_snoc, hv, h, Nat.pow_add]
  have e : x % D ^ 4 = x % D ^ 3 + D ^ 3 * (x / 281474976710656 % 65536) := by unfold D; omega
  rw [e]; grind

set_option maxRecDepth 100000 in
set_option maxHeartbeats 1600000 in
theorem Digits_any (v : Value) (l : List Nat) (w : World) (h : At w .u64 v l) (hs : Small W l) (hlen : l.length ≤ 2199023255552) :
    Calls Try.prog 48 #[v] w (RAt .i64 (dig D (val W l)) w) := by
  obtain ⟨p, cap, rfl, a1, a2, a3, a4⟩ := h
  unfold maxLen at a2
  go_enter Try.func48, Try.ntmps48
  go_wp2_with fail
  go_loopw [3, 9] (fun o i wr => ∃ (k : Nat) (L : List Nat), k ≤ l.length ∧ i = .int .i64 (k : Nat) ∧ Own wr w.heap.size 3 .i64 o L ∧ Hid (L.length = 4 * k) ∧ Small D L ∧
      Hid (val D L = val W (l.take k)) ∧ Below w.heap.size w wr) (fun _ i _ => l.length - (intOf i).toNat)
  case atStart => exact ⟨0, [], Nat.zero_le _, rfl, Own.nil _ _ _ _, rfl, small_nil _, rfl, Below.refl _ _⟩
  case round =>
    obtain ⟨k, L, hk, rfl, hown, hLk, hsl, hv, hbel⟩ := hrel
    by_cases hkl : k < l.length
    · obtain ⟨b, off, rfl, hbb, hcell⟩ := a4 (by omega)
      have e0 : wr.cell? ⟨b, off + k, none⟩ = some (.int .u64 (l[k] : Nat)) := (hbel.cell (p := ⟨b, off + k, none⟩) hbb).trans (hcell k hkl)
      have x0 := small_get hs k hkl
      obtain ⟨x, hx⟩ : ∃ x, x = l[k] := ⟨_, rfl⟩
      rw [← hx] at e0 x0
      have Hx := hid hx; clear hx hcell a4
      unfold W at x0
      go_wp2_with fail
      go_loopw [3, 6] (fun o i wq => ∃ (j : Nat) (M : List Nat), j ≤ 4 ∧ i = .int .i64 (j : Nat) ∧ Own wq w.heap.size 3 .i64 o M ∧ Hid (M.length = 4 * k + j) ∧ Small D M ∧
        Hid (val D M = val W (l.take k) + D ^ (4 * k) * (x % D ^ j)) ∧ Below w.heap.size w wq) (fun _ i _ => 4 - (intOf i).toNat)
      case atStart => exact ⟨0, L, Nat.zero_le _, rfl, hown, by unfold Hid at hLk ⊢; omega, hsl, by unfold Hid at hv ⊢; simp [hv, Nat.mod_one], hbel⟩
      case round =>
        obtain ⟨j, M, hj, rfl, hown', hMk, hsM, hvM, hbel'⟩ := hrel
        by_cases hj4 : j < 4
        · rcases (by omega : j = 0 ∨ j = 1 ∨ j = 2 ∨ j = 3) with rfl | rfl | rfl | rfl
          · go_wp2_with (at_builtin; refine wpList_append_at rfl _ _ 65 rfl elemInts w.heap.size _ M rfl (hown'.alloc _) _ [x % 65536] rfl (At.oneI _ _ _ _ _ (by omega)) (by rw [hMk.out]; simp [maxLen]; omega) (by rw [hMk.out]; simp; omega) (by have := hbel'.size; simp; omega) ?_; intro v2 w2 ho2 hb2 hs2)
            go_roundw
            case rel => exact ⟨1, M ++ [x % 65536], by omega, by go_num, ho2, by have := hMk.out; unfold Hid; simp; omega, small_snoc hsM (Nat.mod_lt _ (by decide)),
                digit_step0 hMk.out hvM.out, (hbel'.trans ((below1 _ _).mono hbel'.size)).trans hb2⟩
            case measure => simp [intOf]
          · go_wp2_with (at_builtin; refine wpList_append_at rfl _ _ 65 rfl elemInts w.heap.size _ M rfl (hown'.alloc _) _ [x / 65536 % 65536] rfl (At.oneI _ _ _ _ _ (by omega)) (by rw [hMk.out]; simp [maxLen]; omega) (by rw [hMk.out]; simp; omega) (by have := hbel'.size; simp; omega) ?_; intro v2 w2 ho2 hb2 hs2)
            go_roundw
            case rel => exact ⟨2, M ++ [x / 65536 % 65536], by omega, by go_num, ho2, by have := hMk.out; unfold Hid; simp; omega, small_snoc hsM (Nat.mod_lt _ (by decide)),
                digit_step1 hMk.out hvM.out, (hbel'.trans ((below1 _ _).mono hbel'.size)).trans hb2⟩
            case measure => simp [intOf]
          · go_wp2_with (at_builtin; refine wpList_append_at rfl _ _ 65 rfl elemInts w.heap.size _ M rfl (hown'.alloc _) _ [x / 4294967296 % 65536] rfl (At.oneI _ _ _ _ _ (by omega)) (by rw [hMk.out]; simp [maxLen]; omega) (by rw [hMk.out]; simp; omega) (by have := hbel'.size; simp; omega) ?_; intro v2 w2 ho2 hb2 hs2)
            go_roundw
            case rel => exact ⟨3, M ++ [x / 4294967296 % 65536], by omega, by go_num, ho2, by have := hMk.out; unfold Hid; simp; omega, small_snoc hsM (Nat.mod_lt _ (by decide)),
                digit_step2 hMk.out hvM.out, (hbel'.trans ((below1 _ _).mono hbel'.size)).trans hb2⟩
            case measure => simp [intOf]
          · go_wp2_with (at_builtin; refine wpList_append_at rfl _ _ 65 rfl elemInts w.heap.size _ M rfl (hown'.alloc _) _ [x / 281474976710656 % 65536] rfl (At.oneI _ _ _ _ _ (by omega)) (by rw [hMk.out]; simp [maxLen]; omega) (by rw [hMk.out]; simp; omega) (by have := hbel'.size; simp; omega) ?_; intro v2 w2 ho2 hb2 hs2)
            go_roundw
            case rel => exact ⟨4, M ++ [x / 281474976710656 % 65536], by omega, by go_num, ho2, by have := hMk.out; unfold Hid; simp; omega, small_snoc hsM (Nat.mod_lt _ (by decide)),
                digit_step3 hMk.out hvM.out, (hbel'.trans ((below1 _ _).mono hbel'.size)).trans hb2⟩
            case measure => simp [intOf]
        · obtain rfl : j = 4 := by omega
          have hv4 : Hid (val D M = val W (l.take (k + 1))) := by
            unfold Hid
            rw [hvM.out, val_take_succ W l k hkl, show D ^ (4 * k) = W ^ k by rw [Nat.pow_mul]; rfl, Nat.mod_eq_of_lt (show x < D ^ 4 from x0), Hx.out]
          go_wp2_with fail
          go_roundw
          case rel => exact ⟨k + 1, M, by omega, by go_num, hown', by have := hMk.out; unfold Hid; omega, hsM, hv4, hbel'⟩
          case measure => simp [intOf]; omega
    · obtain rfl : k = l.length := by omega
      have hv' : Hid (strip L = dig D (val W l)) := by
        have := hv.out
        rw [List.take_length] at this
        unfold Hid
        rw [← this, strip_dig D2 hsl]
      clear a4
      go_wp2_with (go_at_call 64; refine (rtrim_any _ L _ hown.at).mono ?_; rintro e w' ⟨v', rfl, hv'', rfl⟩)
      go_ret
      exact ⟨_, rfl, by rw [← hv'.out]; exact hv'', hbel⟩
end Go.Proofs.Ytlijekppbpefaaa
/- elenchusref01.From: digits of sixteen bits as words. -/
namespace Go.Proofs.Ytlijekppbpefaaa
open Go.RowKit Big

theorem take_next (l : List Nat) (i : Nat) : val D (l.take (i + 4)) = val D (l.take i) + D ^ i * (l[i]?.getD 0 + 65536 * (l[i + 1]?.getD 0 + 65536 * (l[i + 2]?.getD 0 + 65536 * l[i + 3]?.getD 0))) := by
  rw [show i + 4 = i + 3 + 1 by rfl, val_take_getD, show i + 3 = i + 2 + 1 by rfl, val_take_getD, show i + 2 = i + 1 + 1 by rfl, val_take_getD, val_take_getD]
  have h1 : D ^ (i + 1) = D ^ i * 65536 := Nat.pow_succ ..
  have h2 : D ^ (i + 1 + 1) = D ^ i * 65536 * 65536 := by rw [Nat.pow_succ, h1]; rfl
  have h3 : D ^ (i + 1 + 1 + 1) = D ^ i * 65536 * 65536 * 65536 := by rw [Nat.pow_succ, h2]; rfl
  rw [h1, h2, h3]
  grind
theorem from_step {L l : List Nat} {i j x0 x1 x2 x3 : Nat} (hi : i = 4 * j) (hL : L.length = j) (hv : val W L = val D (l.take i))
    (h0 : x0 = l[i]?.getD 0) (h1 : x1 = l[i + 1]?.getD 0) (h2 : x2 = l[i + 2]?.getD 0) (h3 : x3 = l[i + 3]?.getD 0) : val W (L ++ [((x3 * 65536 + x2) * 65536 + x1) * 65536 + x0]) = val D (l.take (i + 4)) := by
  rw [take_next, val_snoc, hv, hL, h0, h1, h2, h3, hi, show D ^ (4 * j) = W ^ j by rw [Nat.pow_mul]; rfl]
  grind

theorem num_eq {k : IntKind} {a b : Int} (h : a = b) : Value.int k a = Value.int k b := by rw [h]

/-- what has been put together of four digits -/
def acc (x0 x1 x2 x3 : Nat) : Nat → Nat
  | 0 => ((x3 * 65536 + x2) * 65536 + x1) * 65536 + x0
  | 1 => (x3 * 65536 + x2) * 65536 + x1
  | 2 => x3 * 65536 + x2
  | 3 => x3
  | _ => 0

set_option maxRecDepth 100000 in
set_option maxHeartbeats 3200000 in
theorem From_any (v : Value) (l : List Nat) (w : World) (h : At w .i64 v l) (hs : Small D l) (hlen : l.length ≤ 8796093022208) :
    Calls Try.prog 49 #[v] w (RAt .u64 (dig W (val D l)) w) := by
  have hv0 : val D (strip l) = val D l := by rw [strip_dig D2 hs, val_dig D2]
  have hs' : Small D (strip l) := by rw [strip_dig D2 hs]; exact small_dig D2 _
  have hl' : (strip l).length ≤ 8796093022208 := Nat.le_trans (strip_length l) hlen
  have hlast : strip l = dig D (val D l) := strip_dig D2 hs
  have G := hid (rtrim_any v l w h)
  rw [← hv0] at hlast ⊢
  clear h hlen hs hv0
  generalize strip l = l' at *
  have Hl := hid hlast; clear hlast
  go_enter Try.func49, Try.ntmps49
  go_wp2_with fail
  refine G.out.mono ?_
  rintro e w' ⟨v', rfl, ⟨p, cap, rfl, a1, a2, a3, a4⟩, rfl⟩
  unfold maxLen at a2
  go_wp2_with fail
  go_loopw [3, 4] (fun o s wr => ∃ (i j : Nat) (L : List Nat), i ≤ l'.length + 3 ∧ Hid (i = 4 * j) ∧ s = .int .i64 (i : Nat) ∧ Own wr w.heap.size 43 .u64 o L ∧ Hid (L.length = j) ∧ j ≤ i ∧ Small W L ∧
      Hid (val W L = val D (l'.take i)) ∧ Below w.heap.size w wr) (fun _ s _ => l'.length + 4 - (intOf s).toNat)
  case atStart => exact ⟨0, 0, [], by omega, rfl, rfl, Own.nil _ _ _ _, rfl, by omega, small_nil _, rfl, Below.refl _ _⟩
  case round =>
    obtain ⟨i, j, L, hi, hij, rfl, hown, hLj, hji, hsl, hv, hbel⟩ := hrel
    by_cases hil : i < l'.length
    · obtain ⟨b, off, rfl, hbb, hcell⟩ := a4 (by omega)
      obtain ⟨x0, hx0⟩ : ∃ x, x = l'[i]?.getD 0 := ⟨_, rfl⟩
      obtain ⟨x1, hx1⟩ : ∃ x, x = l'[i + 1]?.getD 0 := ⟨_, rfl⟩
      obtain ⟨x2, hx2⟩ : ∃ x, x = l'[i + 2]?.getD 0 := ⟨_, rfl⟩
      obtain ⟨x3, hx3⟩ : ∃ x, x = l'[i + 3]?.getD 0 := ⟨_, rfl⟩
      have y0 : x0 < 65536 := by rw [hx0]; exact small_getD hs' (by decide) _
      have y1 : x1 < 65536 := by rw [hx1]; exact small_getD hs' (by decide) _
      have y2 : x2 < 65536 := by rw [hx2]; exact small_getD hs' (by decide) _
      have y3 : x3 < 65536 := by rw [hx3]; exact small_getD hs' (by decide) _
      have cell : ∀ m, i + m < l'.length → wr.cell? ⟨b, off + (i + m), none⟩ = some (.int .i64 (l'[i + m]?.getD 0 : Nat)) := fun m hm => by
        rw [(hbel.cell (p := ⟨b, off + (i + m), none⟩) hbb).trans (hcell (i + m) hm)]; simp [hm]
      have zero : ∀ m, ¬ i + m < l'.length → l'[i + m]?.getD 0 = 0 := fun m hm => by rw [List.getElem?_eq_none (by omega)]; rfl
      have Cell := hid cell
      have Zero := hid zero
      have Hx0 := hid hx0; have Hx1 := hid hx1; have Hx2 := hid hx2; have Hx3 := hid hx3
      clear cell zero hx0 hx1 hx2 hx3 hcell a4
      go_wp2_with fail
      obtain ⟨wo, rfl⟩ : ∃ wo : World, wo = wr := ⟨_, rfl⟩
      go_loopw [5, 6] (fun a s wq => ∃ m : Nat, m ≤ 4 ∧ s = .int .i64 ((m : Int) - 1) ∧ a = .int .u64 (acc x0 x1 x2 x3 m : Nat) ∧ wq = wo) (fun _ s _ => (intOf s + 1).toNat)
      case atStart => exact ⟨4, by omega, rfl, rfl, rfl⟩
      case round =>
        obtain ⟨m, hm, rfl, rfl, rfl⟩ := hrel
        by_cases hm0 : 0 < m
        · rcases (by omega : m = 4 ∨ m = 3 ∨ m = 2 ∨ m = 1) with rfl | rfl | rfl | rfl
          · by_cases hin : i + 3 < l'.length
            · skip
              have c := Cell.out 3 hin
              rw [← Hx3.out] at c
              simp only [acc]
              go_wp2
              go_roundw
              case rel => exact ⟨3, by omega, rfl, num_eq (by first | rfl | omega | (simp only; omega)), by trivial⟩
              case measure => simp [intOf]
            · skip
              have hz : x3 = 0 := by rw [Hx3.out]; exact Zero.out 3 hin
              have Hz := hid hz
              clear hz
              simp only [acc]
              go_wp2
              go_roundw
              case rel => exact ⟨3, by omega, rfl, num_eq (by have := Hz.out; first | omega | (simp only; omega)), by trivial⟩
              case measure => simp [intOf]
          · by_cases hin : i + 2 < l'.length
            · skip
              have c := Cell.out 2 hin
              rw [← Hx2.out] at c
              simp only [acc]
              go_wp2
              go_roundw
              case rel => exact ⟨2, by omega, rfl, num_eq (by first | rfl | omega | (simp only; omega)), by trivial⟩
              case measure => simp [intOf]
            · skip
              have hz : x2 = 0 := by rw [Hx2.out]; exact Zero.out 2 hin
              have Hz := hid hz
              clear hz
              simp only [acc]
              go_wp2
              go_roundw
              case rel => exact ⟨2, by omega, rfl, num_eq (by have := Hz.out; first | omega | (simp only; omega)), by trivial⟩
              case measure => simp [intOf]
          · by_cases hin : i + 1 < l'.length
            · skip
              have c := Cell.out 1 hin
              rw [← Hx1.out] at c
              simp only [acc]
              go_wp2
              go_roundw
              case rel => exact ⟨1, by omega, rfl, num_eq (by first | rfl | omega | (simp only; omega)), by trivial⟩
              case measure => simp [intOf]
            · skip
              have hz : x1 = 0 := by rw [Hx1.out]; exact Zero.out 1 hin
              have Hz := hid hz
              clear hz
              simp only [acc]
              go_wp2
              go_roundw
              case rel => exact ⟨1, by omega, rfl, num_eq (by have := Hz.out; first | omega | (simp only; omega)), by trivial⟩
              case measure => simp [intOf]
          · by_cases hin : i + 0 < l'.length
            · skip
              have c := Cell.out 0 hin
              simp only [Nat.add_zero] at c
              rw [← Hx0.out] at c
              simp only [acc]
              go_wp2
              go_roundw
              case rel => exact ⟨0, by omega, rfl, num_eq (by first | rfl | omega | (simp only; omega)), by trivial⟩
              case measure => simp [intOf]
            · exact absurd hil (by simpa using hin)
        · obtain rfl : m = 0 := by omega
          simp only [acc]
          go_wp2_with (at_builtin; refine wpList_append_at rfl _ _ 23 rfl elemNat w.heap.size _ L rfl (hown.alloc _) _ [((x3 * 65536 + x2) * 65536 + x1) * 65536 + x0] rfl (At.oneI _ _ _ _ _ (by omega)) (by rw [hLj.out]; simp [maxLen]; omega) (by rw [hLj.out]; simp; omega) (by have := hbel.size; simp; omega) ?_; intro v2 w2 ho2 hb2 hs2)
          go_roundw
          case rel => exact ⟨i + 4, j + 1, L ++ [((x3 * 65536 + x2) * 65536 + x1) * 65536 + x0], by omega, by have := hij.out; unfold Hid; omega, by go_num, ho2, by have := hLj.out; unfold Hid; simp; omega, by omega,
            small_snoc hsl (by unfold W; omega), from_step hij.out hLj.out hv.out Hx0.out Hx1.out Hx2.out Hx3.out, (hbel.trans ((below1 _ _).mono hbel.size)).trans hb2⟩
          case measure => simp [intOf]; omega
    · have hv' : Hid (L = dig W (val D l')) := by
        have e := hv.out
        rw [val_take_ge _ _ _ (by omega)] at e
        unfold Hid
        rw [← e]
        refine canon W2 hsl ?_
        by_cases hj0 : j = 0
        · left; exact List.eq_nil_of_length_eq_zero (by rw [hLj.out, hj0])
        · right
          have hne : l' ≠ [] := by
            intro h0; have := hij.out; rw [h0] at hi; simp at hi; omega
          have hlen : l'.length = sz D (val D l') := by unfold sz; rw [← Hl.out]
          have hpos : 0 < val D l' := Nat.pos_of_ne_zero fun e0 => by
            have := Hl.out; rw [e0] at this; exact hne this
          have hp := pow_sz_le D2 hpos
          rw [← hlen] at hp
          rw [e, hLj.out]
          refine Nat.le_trans ?_ hp
          rw [show W ^ (j - 1) = D ^ (4 * (j - 1)) by rw [Nat.pow_mul]; rfl]
          exact Nat.pow_le_pow_right (by decide) (by have := hij.out; omega)
      clear a4 hij hv Hl
      go_wp2
      go_ret
      exact ⟨_, rfl, by rw [← hv'.out]; exact hown.at, hbel⟩
end Go.Proofs.Ytlijekppbpefaaa
/- elenchusref01.Whole, Neg. -/
namespace Go.Proofs.Ytlijekppbpefaaa
open Go.RowKit Big

theorem sz4 (n : Nat) : sz D n ≤ 4 * sz W n := by
  refine sz_le_of_lt D2 ?_
  have := lt_pow_sz W2 n
  rwa [Nat.pow_mul, show D ^ 4 = W by rfl]

theorem IntAt.whole {w : World} {neg : Bool} {n : Nat} {p : Option Addr} {len c : Nat} (h : At w .u64 (.slice p len c) (dig W n)) :
    IntAt w (.agg #[.bool (neg && decide (0 < len)), .slice p len c]) (sg neg n) := by
  have hl : len = sz W n := by
    obtain ⟨p', c', hv, r⟩ := h
    cases hv; rfl
  refine ⟨_, ?_, by rw [sg_natAbs]; exact h⟩
  by_cases h0 : n = 0
  · subst h0
    rw [sg_zero]
    have : len = 0 := by rw [hl]; rfl
    subst this
    simp
  · rw [sg_neg neg n h0]
    have : 0 < len := by rw [hl]; exact Nat.pos_of_ne_zero fun e => h0 ((sz_eq_zero W2).1 e)
    simp [this]

set_option maxHeartbeats 800000 in
theorem Whole_any (neg : Bool) (v : Value) (l : List Nat) (w : World) (h : At w .u64 v l) (hs : Small W l) (hlen : l.length ≤ 2199023255552) :
    Calls Try.prog 39 #[.bool neg, v] w (RInt (sg neg (val W l)) w) := by
  have hd : ∀ o, Calls Try.prog 48 #[v] (w.alloc o) (RAt .i64 (dig D (val W l)) (w.alloc o)) := fun o => Digits_any v l _ (h.alloc o) hs hlen
  have hsz : (dig D (val W l)).length ≤ 8796093022208 := by
    have h1 := sz4 (val W l)
    have h2 := sz_val W2 hs
    show sz D (val W l) ≤ _
    omega
  have Hd := hid hd
  have Hsz := hid hsz
  clear hd hsz
  generalize val W l = n at *
  go_enter Try.func39, Try.ntmps39
  go_wp2_with fail
  refine (Hd.out _).mono ?_
  rintro e w1 ⟨v1, rfl, h1, hb1⟩
  go_wp2_with fail
  refine (From_any v1 _ w1 h1 (small_dig D2 n) Hsz.out).mono ?_
  rintro e w2 ⟨v2, rfl, h2, hb2⟩
  rw [val_dig D2] at h2
  have hpr : Pair w2 w.heap.size 25 := Pair.below (Pair.below (Pair.new ..) hb1) hb2
  obtain ⟨_, _, q0, q1, q2, q3⟩ := hpr.cells
  have z1 : w.heap.size + 1 ≤ w1.heap.size := by have := hb1.size; simp at this; omega
  have bw : Below w.heap.size w w2 := ((below1 _ _).trans (hb1.mono (B' := w.heap.size) (by simp))).trans (hb2.mono (B' := w.heap.size) (by omega))
  obtain ⟨p, c, rfl, -⟩ := id h2
  have hI := IntAt.whole (neg := neg) h2
  have HI := hid hI
  clear hb1 hb2 h1 h2 hI
  generalize (dig W n).length = len at *
  cases neg
  · go_wp2
    exact bodyPost_ret (v := .agg #[.bool false, .slice p len c]) (by simp [results, Try.results39, go_sem, q0, q1]) rfl
      ⟨_, rfl, (show IntAt w2 _ _ from HI.out).stored hpr _ _ _ _, Below.stored bw (by omega) _ _⟩
  · by_cases h0 : 0 < len
    · have hx : Hid (decide (0 < len) = true) := by unfold Hid; simpa using h0
      go_wp2
      exact bodyPost_ret (v := .agg #[.bool true, .slice p len c]) (by simp [results, Try.results39, go_sem, q0, q1]) rfl
        ⟨_, rfl, (by have := HI.out; rw [hx.out] at this; exact this.stored hpr _ _ _ _), Below.stored bw (by omega) _ _⟩
    · have hx : Hid (decide (0 < len) = false) := by unfold Hid; simpa using h0
      go_wp2
      exact bodyPost_ret (v := .agg #[.bool false, .slice p len c]) (by simp [results, Try.results39, go_sem, q0, q1]) rfl
        ⟨_, rfl, (by have := HI.out; rw [hx.out] at this; exact this.stored hpr _ _ _ _), Below.stored bw (by omega) _ _⟩
end Go.Proofs.Ytlijekppbpefaaa
/- elenchusref01.plus: sums of digits. -/
namespace Go.Proofs.Ytlijekppbpefaaa
open Go.RowKit Big

theorem rplus_step {L l0 l1 : List Nat} {k x y c : Nat} (hl : L.length = k) (hx : x = l0[k]?.getD 0) (hy : y = l1[k]?.getD 0)
    (hv : val D L + c * D ^ k = val D (l0.take k) + val D (l1.take k)) : val D (L ++ [(c + x + y) % 65536]) + (c + x + y) / 65536 * D ^ (k + 1) = val D (l0.take (k + 1)) + val D (l1.take (k + 1)) := by
  rw [val_snoc, val_take_getD, val_take_getD, hl, ← hx, ← hy, Nat.pow_succ]
  exact add_step (by unfold D; omega : x + y + c = (c + x + y) % 65536 + D * ((c + x + y) / 65536)) hv

set_option maxRecDepth 100000 in
set_option maxHeartbeats 1600000 in
theorem rplus_any (v0 v1 : Value) (l0 l1 : List Nat) (w : World) (h0 : At w .i64 v0 l0) (h1 : At w .i64 v1 l1) (s0 : Small D l0) (s1 : Small D l1)
    (hl0 : l0.length ≤ 4398046511104) (hl1 : l1.length ≤ 4398046511104) : Calls Try.prog 63 #[v0, v1] w (RAt .i64 (dig D (val D l0 + val D l1)) w) := by
  have g0 : ∀ (k : Nat) W, Below w.heap.size w W → Calls Try.prog 77 #[v0, .int .i64 (k : Nat)] W fun e w' => e = .returned (.int .i64 (l0[k]?.getD 0 : Nat)) ∧ w' = W := fun k W hb => at_any v0 l0 k W (h0.below hb)
  have g1 : ∀ (k : Nat) W, Below w.heap.size w W → Calls Try.prog 77 #[v1, .int .i64 (k : Nat)] W fun e w' => e = .returned (.int .i64 (l1[k]?.getD 0 : Nat)) ∧ w' = W := fun k W hb => at_any v1 l1 k W (h1.below hb)
  have G0 := hid g0; have G1 := hid g1
  clear g0 g1
  obtain ⟨p0, c0, rfl, a1, a2, a3, -⟩ := h0
  obtain ⟨p1, c1, rfl, b1, b2, b3, -⟩ := h1
  unfold maxLen at a2 b2
  go_enter Try.func63, Try.ntmps63
  go_wp2_with fail
  go_loopw [5, 6, 7] (fun o c i wr => ∃ (k : Nat) (L : List Nat) (c' : Nat), (k ≤ l0.length ∨ k ≤ l1.length ∨ k ≤ l0.length + 1 ∧ k ≤ l1.length + 1 + l0.length ∧ c' = 0 ∨ (k = l1.length + 1 ∧ c' = 0)) ∧ i = .int .i64 (k : Nat) ∧ c = .int .i64 (c' : Nat) ∧ c' ≤ 1 ∧
      Own wr w.heap.size 3 .i64 o L ∧ Hid (L.length = k) ∧ Small D L ∧ Hid (val D L + c' * D ^ k = val D (l0.take k) + val D (l1.take k)) ∧ Below w.heap.size w wr) (fun _ _ i _ => l0.length + l1.length + 2 - (intOf i).toNat)
  case atStart => exact ⟨0, [], 0, Or.inl (Nat.zero_le _), rfl, rfl, by omega, Own.nil _ _ _ _, rfl, small_nil _, by simp [Hid, val], Below.refl _ _⟩
  case round =>
    obtain ⟨k, L, c', hk, rfl, rfl, hc', hown, hLk, hsl, hv, hbel⟩ := hrel
    obtain ⟨x, hx⟩ : ∃ x, x = l0[k]?.getD 0 := ⟨_, rfl⟩
    obtain ⟨y, hy⟩ : ∃ y, y = l1[k]?.getD 0 := ⟨_, rfl⟩
    have x0 : x < 65536 := by rw [hx]; exact small_getD s0 (by decide) k
    have y0 : y < 65536 := by rw [hy]; exact small_getD s1 (by decide) k
    have t0 := G0.out k wr hbel
    have t1 := G1.out k wr hbel
    rw [← hx] at t0
    rw [← hy] at t1
    have hx0 : l0.length ≤ k → x = 0 := fun h => by rw [hx, List.getElem?_eq_none h]; rfl
    have hy0 : l1.length ≤ k → y = 0 := fun h => by rw [hy, List.getElem?_eq_none h]; rfl
    have T0 := hid t0; have T1 := hid t1
    have Hx := hid hx; have Hy := hid hy
    clear t0 t1 hx hy
    have hk2 : k ≤ l0.length + l1.length + 1 := by omega
    by_cases hgo : k < l0.length ∨ k < l1.length ∨ 0 < c'
    · have hn : (k + 1 ≤ l0.length ∨ k + 1 ≤ l1.length ∨ k + 1 ≤ l0.length + 1 ∧ k + 1 ≤ l1.length + 1 + l0.length ∧ (c' + x + y) / 65536 = 0 ∨ (k + 1 = l1.length + 1 ∧ (c' + x + y) / 65536 = 0)) := by omega
      have Hn := hid hn
      clear hn hk hx0 hy0
      rcases (by omega : k < l0.length ∨ (¬ k < l0.length ∧ k < l1.length) ∨ (¬ k < l0.length ∧ ¬ k < l1.length ∧ 0 < c')) with h | ⟨h, h'⟩ | ⟨h, h', h''⟩
      all_goals
        go_wp2_with fail
        refine T0.out.mono ?_
        rintro e w' ⟨rfl, rfl⟩
        go_wp2_with fail
        refine T1.out.mono ?_
        rintro e w' ⟨rfl, rfl⟩
        go_wp2_with (at_builtin; refine wpList_append_at rfl _ _ 65 rfl elemInts w.heap.size _ L rfl (hown.alloc _) _ [(c' + x + y) % 65536] rfl (At.oneI _ _ _ _ _ (by omega)) (by rw [hLk.out]; simp [maxLen]; omega) (by rw [hLk.out]; simp; omega) (by have := hbel.size; simp; omega) ?_; intro v2 w2 ho2 hb2 hs2)
        go_roundw
        case rel => exact ⟨k + 1, L ++ [(c' + x + y) % 65536], (c' + x + y) / 65536, Hn.out, by go_num, by go_num, by omega, ho2, by have := hLk.out; unfold Hid; simp; omega, small_snoc hsl (Nat.mod_lt _ (by decide)),
          rplus_step hLk.out Hx.out Hy.out hv.out, (hbel.trans ((below1 _ _).mono hbel.size)).trans hb2⟩
        case measure => simp [intOf]; omega
    · have hc0 : c' = 0 := by omega
      subst hc0
      have h : ¬ k < l0.length := by omega
      have h' : ¬ k < l1.length := by omega
      have hv' : Hid (strip L = dig D (val D l0 + val D l1)) := by
        have := hv.out
        rw [val_take_ge _ _ _ (by omega), val_take_ge _ _ _ (by omega), Nat.zero_mul, Nat.add_zero] at this
        unfold Hid
        rw [← this, strip_dig D2 hsl]
      clear hgo hk hx0 hy0
      go_wp2_with (go_at_call 64; refine (rtrim_any _ L _ hown.at).mono ?_; rintro e w' ⟨v', rfl, hv'', rfl⟩)
      go_ret
      exact ⟨_, rfl, by rw [← hv'.out]; exact hv'', hbel⟩
end Go.Proofs.Ytlijekppbpefaaa
/- elenchusref01.less: differences of digits. -/
namespace Go.Proofs.Ytlijekppbpefaaa
open Go.RowKit Big

theorem rless_step {L l0 l1 : List Nat} {k x y c s c2 : Nat} {hk : k < l0.length} (hl : L.length = k) (hx : x = l0[k]) (hy : y = l1[k]?.getD 0) (hs : x + D * c2 = s + y + c)
    (hv : val D L + val D (l1.take k) = val D (l0.take k) + c * D ^ k) : val D (L ++ [s]) + val D (l1.take (k + 1)) = val D (l0.take (k + 1)) + c2 * D ^ (k + 1) := by
  rw [val_snoc, val_take_succ D l0 k hk, val_take_getD, hl, ← hx, ← hy, Nat.pow_succ]
  exact sub_step hs hv

set_option maxRecDepth 100000 in
set_option maxHeartbeats 1600000 in
theorem rless_own (v0 v1 : Value) (l0 l1 : List Nat) (w : World) (h0 : At w .i64 v0 l0) (h1 : At w .i64 v1 l1) (s0 : Small D l0) (s1 : Small D l1)
    (hl0 : l0.length ≤ 4398046511104) (hll : l1.length ≤ l0.length) (hvv : val D l1 ≤ val D l0) : Calls Try.prog 66 #[v0, v1] w (ROwn 3 .i64 (dig D (val D l0 - val D l1)) w) := by
  have g1 : ∀ (k : Nat) W, Below w.heap.size w W → ∀ n, Calls Try.prog 77 #[v1, .int .i64 (k : Nat)] (W.drewN n) fun e w' => e = .returned (.int .i64 (l1[k]?.getD 0 : Nat)) ∧ w' = W.drewN n := fun k W hb n => at_any v1 l1 k _ ((h1.below hb).drewN n)
  have G1 := hid g1
  clear g1
  have Hvv := hid hvv; clear hvv
  obtain ⟨r, hr⟩ : ∃ r, r = dig D (val D l0 - val D l1) := ⟨_, rfl⟩
  rw [← hr]
  have Hr := hid hr; clear hr
  obtain ⟨p0, c0, rfl, a1, a2, a3, a4⟩ := h0
  obtain ⟨p1, c1, rfl, b1, b2, b3, -⟩ := h1
  unfold maxLen at a2 b2
  go_enter Try.func66, Try.ntmps66
  go_wp2_with fail
  go_loopw [5, 6, 7] (fun o c i wr => ∃ (k : Nat) (L : List Nat) (c' : Nat), k ≤ l0.length ∧ i = .int .i64 (k : Nat) ∧ c = .int .i64 (c' : Nat) ∧ c' ≤ 1 ∧
      Own wr w.heap.size 3 .i64 o L ∧ Hid (L.length = k) ∧ Small D L ∧ Hid (val D L + val D (l1.take k) = val D (l0.take k) + c' * D ^ k) ∧ Below w.heap.size w wr) (fun _ _ i _ => l0.length - (intOf i).toNat)
  case atStart => exact ⟨0, [], 0, Nat.zero_le _, rfl, rfl, by omega, Own.nil _ _ _ _, rfl, small_nil _, by simp [Hid, val], Below.refl _ _⟩
  case round =>
    obtain ⟨k, L, c', hk, rfl, rfl, hc', hown, hLk, hsl, hv, hbel⟩ := hrel
    by_cases hkl : k < l0.length
    · obtain ⟨b, off, rfl, hbb, hcell⟩ := a4 (by omega)
      have e0 : wr.cell? ⟨b, off + k, none⟩ = some (.int .i64 (l0[k] : Nat)) := (hbel.cell (p := ⟨b, off + k, none⟩) hbb).trans (hcell k hkl)
      have x0 := small_get s0 k hkl
      obtain ⟨x, hx⟩ : ∃ x, x = l0[k] := ⟨_, rfl⟩
      rw [← hx] at e0 x0
      obtain ⟨y, hy⟩ : ∃ y, y = l1[k]?.getD 0 := ⟨_, rfl⟩
      have y0 : y < 65536 := by rw [hy]; exact small_getD s1 (by decide) k
      have t1 := G1.out k wr hbel
      rw [← hy] at t1
      have T1 := hid t1
      have Hx := hid hx; have Hy := hid hy
      clear t1 hx hy hcell a4
      unfold D at x0
      have i0 : (0 : Int) ≤ (k : Int) := by omega
      have i1 : (k : Int) < (l0.length : Int) := by omega
      by_cases hneg : x < y + c'
      · go_wp2_with fail
        go_quiet ((go_at_call 77; exact Calls.quiet_of_same (T1.out _)))
        go_wp2_with (at_builtin; refine wpList_append_at rfl _ _ 65 rfl elemInts w.heap.size _ L rfl ((hown.kept (below_drewN (Below.refl _ _) _)).alloc _) _ [x + 65536 - y - c'] rfl (At.oneI _ _ _ _ _ (by omega)) (by rw [hLk.out]; simp [maxLen]; omega) (by rw [hLk.out]; simp; omega) (by have := hbel.size; simp; omega) ?_; intro v2 w2 ho2 hb2 hs2)
        go_roundw
        case rel => exact ⟨k + 1, L ++ [x + 65536 - y - c'], 1, by omega, by go_num, rfl, by omega, ho2, by have := hLk.out; unfold Hid; simp; omega, small_snoc hsl (show _ < 65536 by omega),
          rless_step hLk.out Hx.out Hy.out (show _ + 65536 * _ = _ by omega) hv.out, ((below_drewN hbel _).trans ((below1 _ _).mono (by have := hbel.size; simp; omega))).trans hb2⟩
        case measure => simp [intOf]; omega
      · go_wp2_with fail
        go_quiet ((go_at_call 77; exact Calls.quiet_of_same (T1.out _)))
        go_wp2_with (at_builtin; refine wpList_append_at rfl _ _ 65 rfl elemInts w.heap.size _ L rfl ((hown.kept (below_drewN (Below.refl _ _) _)).alloc _) _ [x - y - c'] rfl (At.oneI _ _ _ _ _ (by omega)) (by rw [hLk.out]; simp [maxLen]; omega) (by rw [hLk.out]; simp; omega) (by have := hbel.size; simp; omega) ?_; intro v2 w2 ho2 hb2 hs2)
        go_roundw
        case rel => exact ⟨k + 1, L ++ [x - y - c'], 0, by omega, by go_num, rfl, by omega, ho2, by have := hLk.out; unfold Hid; simp; omega, small_snoc hsl (show _ < 65536 by omega),
          rless_step hLk.out Hx.out Hy.out (show _ + 65536 * _ = _ by omega) hv.out, ((below_drewN hbel _).trans ((below1 _ _).mono (by have := hbel.size; simp; omega))).trans hb2⟩
        case measure => simp [intOf]; omega
    · obtain rfl : k = l0.length := by omega
      have hv' : val D L + val D l1 = val D l0 + c' * D ^ l0.length := by
        have := hv.out
        rwa [List.take_length, val_take_ge D l1 _ (by omega)] at this
      have hlt := val_lt (by decide : 0 < D) hsl
      have e : strip L = r := by
        rw [strip_dig D2 hsl, Hr.out]
        have := Hvv.out
        rw [hLk.out] at hlt
        have : c' = 0 := by
          rcases (by omega : c' = 0 ∨ c' = 1) with h | h
          · exact h
          · subst h; omega
        subst this
        congr 1; omega
      have He := hid e; clear hv hv' e hlt a4
      have hst := strip_length L
      have ho' := hown
      obtain ⟨po, co, rfl, -⟩ := id hown.at
      go_wp2_with (go_at_call 64; refine (rtrim_val _ L _ hown.at).mono ?_; rintro e w' ⟨rfl, rfl⟩; simp only [cutTo])
      go_ret
      exact ⟨_, rfl, by rw [← He.out]; have := ho'.take (strip L).length hst; rwa [← strip_is_take] at this, hbel⟩
theorem rless_any (v0 v1 : Value) (l0 l1 : List Nat) (w : World) (h0 : At w .i64 v0 l0) (h1 : At w .i64 v1 l1) (s0 : Small D l0) (s1 : Small D l1)
    (hl0 : l0.length ≤ 4398046511104) (hll : l1.length ≤ l0.length) (hvv : val D l1 ≤ val D l0) : Calls Try.prog 66 #[v0, v1] w (RAt .i64 (dig D (val D l0 - val D l1)) w) :=
  (rless_own v0 v1 l0 l1 w h0 h1 s0 s1 hl0 hll hvv).mono fun _ _ ⟨v, he, ho, hb⟩ => ⟨v, he, ho.at, hb⟩
end Go.Proofs.Ytlijekppbpefaaa
/- elenchusref01.compare, order: the order of sizes. -/
namespace Go.Proofs.Ytlijekppbpefaaa
open Go.RowKit Big

theorem ord_partD {l0 l1 : List Nat} {n m : Nat} (s0 : Small D l0) (s1 : Small D l1) (h0 : val D l0 = n) (h1 : val D l1 = m) {k : Nat} (hk0 : k < l0.length) (hk1 : k < l1.length)
    (hd : l0.drop (k + 1) = l1.drop (k + 1)) : (l0[k] < l1[k] → ord n m = -1) ∧ (l1[k] < l0[k] → ord n m = 1) := by
  refine ⟨fun h => ?_, fun h => ?_⟩
  · have := val_lt_of_part s0 hk0 hk1 hd h
    exact ord_lt (by omega)
  · have := val_lt_of_part s1 hk1 hk0 hd.symm h
    exact ord_gt (by omega)

set_option maxRecDepth 100000 in
set_option maxHeartbeats 1600000 in
theorem rcompare_any (v0 v1 : Value) (n m : Nat) (w : World) (h0 : At w .i64 v0 (dig D n)) (h1 : At w .i64 v1 (dig D m)) :
    Calls Try.prog 65 #[v0, v1] w (ROrd (ord n m) w) := by
  have s0 := small_dig D2 n
  have s1 := small_dig D2 m
  have k1 : (dig D n).length < (dig D m).length → n < m := lt_of_sz_lt D2
  have k2 : (dig D m).length < (dig D n).length → m < n := lt_of_sz_lt D2
  have hv0 := val_dig D2 n
  have hv1 := val_dig D2 m
  generalize dig D n = l0 at *
  generalize dig D m = l1 at *
  have Hv0 := hid hv0; clear hv0
  have Hv1 := hid hv1; clear hv1
  obtain ⟨p0, c0, rfl, a1, a2, a3, a4⟩ := h0
  obtain ⟨p1, c1, rfl, b1, b2, b3, b4⟩ := h1
  unfold maxLen at a2 b2
  by_cases hl : l0.length = l1.length
  · have Hl := hid hl
    rw [hl] at a1 ⊢; clear hl
    go_enter Try.func65, Try.ntmps65
    go_wp2_with fail
    go_loopw [5] (fun i wr => ∃ (k : Nat), k ≤ l1.length ∧ i = .int .i64 ((k : Int) - 1) ∧ Hid (l0.drop k = l1.drop k) ∧ Hid (∃ j, wr = w.drewN j)) (fun i _ => (intOf i + 1).toNat)
    case atStart => exact ⟨l1.length, Nat.le_refl _, rfl, by unfold Hid; rw [List.drop_length, ← Hl.out, List.drop_length], 0, rfl⟩
    case round =>
      obtain ⟨k, hk, rfl, hd, Hw⟩ := hrel
      by_cases hk0 : 0 < k
      · obtain ⟨k, rfl⟩ : ∃ k', k = k' + 1 := ⟨k - 1, by omega⟩
        have hkl : k < l0.length := by rw [Hl.out]; omega
        obtain ⟨b, off, rfl, hbb, hc0⟩ := a4 (Nat.lt_of_le_of_lt (Nat.zero_le _) hkl)
        obtain ⟨b', off', rfl, hbb', hc1⟩ := b4 (by omega)
        have e0 : wr.cell? ⟨b, off + k, none⟩ = some (.int .i64 (l0[k] : Nat)) := by obtain ⟨j, rfl⟩ := Hw.out; exact hc0 k hkl
        have e1 : wr.cell? ⟨b', off' + k, none⟩ = some (.int .i64 (l1[k] : Nat)) := by obtain ⟨j, rfl⟩ := Hw.out; exact hc1 k (by omega)
        have ep := ord_partD s0 s1 Hv0.out Hv1.out hkl (show k < l1.length by omega) hd.out
        have es : l0[k] = l1[k] → l0.drop k = l1.drop k := fun h => by
          rw [List.drop_eq_getElem_cons hkl, List.drop_eq_getElem_cons (show k < l1.length by omega), h, hd.out]
        generalize l0[k] = x at *
        generalize l1[k] = y at *
        have Ep : Hid ((x < y → ord n m = -1) ∧ (y < x → ord n m = 1)) := ep
        have Es : Hid (x = y → l0.drop k = l1.drop k) := es
        clear a4 b4 hc0 hc1 ep es hbb hbb' s0 s1 k1 k2
        have hlow : (0 : Int) ≤ (k : Int) + 1 - 1 := by omega
        rcases Nat.lt_trichotomy x y with hxy | hxy | hxy
        · have Hr : Hid (ord n m = -1) := Ep.out.1 hxy
          clear Ep Es
          go_wp2
          go_quiet (fail)
          go_wp2
          go_ret
          exact ⟨by rw [Hr.out]; rfl, drawn_more Hw.out⟩
        · subst hxy
          go_wp2
          go_quiet (fail)
          go_wp2
          go_quiet (fail)
          go_wp2
          go_roundw
          case rel => exact ⟨k, by omega, rfl, Es.out (by trivial), by first | exact drawn_more Hw.out | exact drawn_more (drawn_more Hw.out)⟩
          case measure => simp [intOf]
        · have Hr : Hid (ord n m = 1) := Ep.out.2 hxy
          clear Ep Es
          go_wp2
          go_quiet (fail)
          go_wp2
          go_quiet (fail)
          go_wp2
          go_ret
          exact ⟨by rw [Hr.out]; rfl, drawn_more (drawn_more Hw.out)⟩
      · obtain rfl : k = 0 := by omega
        have hn : ord n m = 0 := by
          have h := hd.out
          rw [List.drop_zero, List.drop_zero] at h
          rw [← Hv0.out, ← Hv1.out, h]; exact ord_eq _
        have Hn := hid hn
        clear hn a4 b4 k1 k2 hd
        go_wp2
        go_ret
        exact ⟨by rw [Hn.out]; rfl, Hw.out⟩
  · have hb : ((l0.length : Int) != (l1.length : Int)) = true := bne_iff_ne.2 (by omega)
    rcases Nat.lt_or_ge l0.length l1.length with h | h
    · have Hn : Hid (ord n m = -1) := ord_lt (by have := k1 h; omega)
      clear a4 b4 k1 k2
      go_enter Try.func65, Try.ntmps65
      go_wp2
      go_ret
      exact ⟨by rw [Hn.out]; rfl, 0, rfl⟩
    · have h' : ¬ l0.length < l1.length := by omega
      have Hn : Hid (ord n m = 1) := ord_gt (by have := k2 (by omega); omega)
      clear a4 b4 k1 k2
      go_enter Try.func65, Try.ntmps65
      go_wp2
      go_ret
      exact ⟨by rw [Hn.out]; rfl, 0, rfl⟩

/-- elenchusref01.order -/
theorem order_any (v0 v1 : Value) (l0 l1 : List Nat) (w : World) (h0 : At w .u64 v0 l0) (h1 : At w .u64 v1 l1) (s0 : Small W l0) (s1 : Small W l1) (c0 : l0.length ≤ 1099511627776) (c1 : l1.length ≤ 1099511627776) :
    Calls Try.prog 67 #[v0, v1] w (RNum .i64 (ord (val W l0) (val W l1)) w) := by
  have g0 := Digits_any v0 l0 w h0 s0 (by omega)
  have g1 : ∀ W', Below w.heap.size w W' → Calls Try.prog 48 #[v1] W' (RAt .i64 (dig D (val W l1)) W') := fun W' hb => Digits_any v1 l1 W' (h1.below hb) s1 (by omega)
  have G0 := hid g0; have G1 := hid g1
  obtain ⟨r, hr⟩ : ∃ r, r = ord (val W l0) (val W l1) := ⟨_, rfl⟩
  rw [← hr]
  have Hr := hid hr
  clear hr g0 g1
  go_enter Try.func67, Try.ntmps67
  go_wp2_with fail
  refine G0.out.mono ?_
  rintro e w1 ⟨v2, rfl, ha2, hb1⟩
  go_wp2_with fail
  refine (G1.out _ hb1).mono ?_
  rintro e w2 ⟨v3, rfl, ha3, hb2⟩
  have ha2' := ha2.below hb2
  go_wp2_with fail
  refine (rcompare_any v2 v3 _ _ w2 ha2' ha3).mono ?_
  rintro e w3 ⟨rfl, k, rfl⟩
  go_wp2_with fail
  go_ret
  exact ⟨by rw [Hr.out]; rfl, below_drewN (hb1.trans (hb2.mono hb1.size)) _⟩
end Go.Proofs.Ytlijekppbpefaaa
/- elenchusref01's digit functions, said of numbers. -/
namespace Go.Proofs.Ytlijekppbpefaaa
open Go.RowKit Big
theorem rplusN_any (v0 v1 : Value) (x y : Nat) (w : World) (h0 : At w .i64 v0 (dig D x)) (h1 : At w .i64 v1 (dig D y)) (k0 : sz D x ≤ 4398046511104) (k1 : sz D y ≤ 4398046511104) :
    Calls Try.prog 63 #[v0, v1] w (RAt .i64 (dig D (x + y)) w) := by
  have := rplus_any v0 v1 _ _ w h0 h1 (small_dig D2 _) (small_dig D2 _) k0 k1
  rwa [val_dig D2, val_dig D2] at this
theorem rlessN_any (v0 v1 : Value) (x y : Nat) (w : World) (h0 : At w .i64 v0 (dig D x)) (h1 : At w .i64 v1 (dig D y)) (k0 : sz D x ≤ 4398046511104) (hyx : y ≤ x) :
    Calls Try.prog 66 #[v0, v1] w (RAt .i64 (dig D (x - y)) w) := by
  have := rless_any v0 v1 _ _ w h0 h1 (small_dig D2 _) (small_dig D2 _) k0 (sz_mono D2 hyx) (by rw [val_dig D2, val_dig D2]; exact hyx)
  rwa [val_dig D2, val_dig D2] at this
theorem FromN_any (v : Value) (x : Nat) (w : World) (h : At w .i64 v (dig D x)) (k : sz D x ≤ 8796093022208) :
    Calls Try.prog 49 #[v] w (RAt .u64 (dig W x) w) := by
  have := From_any v _ w h (small_dig D2 _) k
  rwa [val_dig D2] at this
theorem WholeN_any (neg : Bool) (v : Value) (x : Nat) (w : World) (h : At w .u64 v (dig W x)) (k : sz W x ≤ 2199023255552) :
    Calls Try.prog 39 #[.bool neg, v] w (RInt (sg neg x) w) := by
  have := Whole_any neg v _ w h (small_dig W2 _) k
  rwa [val_dig W2] at this
end Go.Proofs.Ytlijekppbpefaaa
/- elenchusref01.Neg, Add. -/
namespace Go.Proofs.Ytlijekppbpefaaa
open Go.RowKit Big

set_option maxRecDepth 100000 in
set_option maxHeartbeats 3200000 in
theorem RAdd_any (v0 v1 : Value) (a b : Int) (w : World) (h0 : RawAt w v0 a) (h1 : RawAt w v1 b) : Calls Try.prog 50 #[v0, v1] w (RInt (a + b) w) := by
  obtain ⟨n0, s0, l0, rfl, a0, b0, c0, rfl⟩ := h0
  obtain ⟨n1, s1, l1, rfl, a1, b1, c1, rfl⟩ := h1
  have g0 : ∀ W', Below w.heap.size w W' → Calls Try.prog 48 #[s0] W' (RAt .i64 (dig D (val W l0)) W') := fun W' hb => Digits_any s0 l0 W' (a0.below hb) b0 (by omega)
  have g1 : ∀ W', Below w.heap.size w W' → Calls Try.prog 48 #[s1] W' (RAt .i64 (dig D (val W l1)) W') := fun W' hb => Digits_any s1 l1 W' (a1.below hb) b1 (by omega)
  have go : ∀ W', Below w.heap.size w W' → Calls Try.prog 67 #[s0, s1] W' (RNum .i64 (ord (val W l0) (val W l1)) W') := fun W' hb => order_any s0 s1 l0 l1 W' (a0.below hb) (a1.below hb) b0 b1 c0 c1
  have m0 : sz W (val W l0) ≤ 1099511627776 := Nat.le_trans (sz_val W2 b0) c0
  have m1 : sz W (val W l1) ≤ 1099511627776 := Nat.le_trans (sz_val W2 b1) c1
  have G0 := hid g0; have G1 := hid g1; have GO := hid go
  obtain ⟨r, hr⟩ : ∃ r, r = sg n0 (val W l0) + sg n1 (val W l1) := ⟨_, rfl⟩
  rw [← hr]
  have Hr := hid hr
  clear hr g0 g1 go a0 a1 b0 b1 c0 c1
  generalize val W l0 = x at *
  generalize val W l1 = y at *
  have k0 : sz D x ≤ 4398046511104 := Nat.le_trans (sz4 x) (by omega)
  have k1 : sz D y ≤ 4398046511104 := Nat.le_trans (sz4 y) (by omega)
  by_cases hn : n0 = n1
  · subst hn
    have Hs : Hid (sg n0 (x + y) = r) := by unfold Hid; rw [sg_add_same, Hr.out]
    have mw : sz W (x + y) ≤ 2199023255552 := Nat.le_trans (sz_add W2 m0 m1) (by omega)
    have ks : sz D (x + y) ≤ 8796093022208 := Nat.le_trans (sz4 _) (by omega)
    go_enter Try.func50, Try.ntmps50
    go_wp2_with fail
    generalize hW : World.alloc (World.alloc (World.alloc w _) _) _ = W3
    have bw : Below w.heap.size w W3 := by rw [← hW]; exact ((below1 _ _).alloc (by simp) _).alloc (by simp; omega) _
    have hp : Pair W3 (w.heap.size + 1 + 1) 25 := by rw [← hW]; exact Pair.new2 ..
    obtain ⟨c00, c01, c10, c11, -⟩ : Two W3 w.heap.size (.bool n0) s0 (.bool n0) s1 := by rw [← hW]; exact (Two.new w _ _ _ _ _).below (below1 _ _)
    have z3 : w.heap.size + 3 ≤ W3.heap.size := by rw [← hW]; simp
    have bw' := hid bw
    clear hW bw
    go_region_held3 (fun w' => w'.cell? ⟨w.heap.size, 0, none⟩ = some (.bool n0) ∧ w'.cell? ⟨w.heap.size, 1, none⟩ = some s0 ∧ w'.cell? ⟨w.heap.size + 1, 0, none⟩ = some (.bool n0) ∧ w'.cell? ⟨w.heap.size + 1, 1, none⟩ = some s1 ∧ Pair w' (w.heap.size + 1 + 1) 25)
      (first | (go_split_ands; (try dsimp only); (repeat' apply And.intro) <;> first | assumption | exact Pair.drew ‹_› | exact Pair.below ‹_› hb9 | exact Pair.below ‹_› hb8 | exact Pair.below ‹_› hb7 | exact Pair.below ‹_› hb6 | exact Pair.below ‹_› hb5 | exact Pair.below ‹_› hb4 | exact Pair.below ‹_› hb3 | exact Pair.below ‹_› hb2 | exact Pair.below ‹_› hb1 | exact (hb9.cell (by first | omega | (simp; omega) | (simp; done))).trans ‹_› | exact (hb8.cell (by first | omega | (simp; omega) | (simp; done))).trans ‹_› | exact (hb7.cell (by first | omega | (simp; omega) | (simp; done))).trans ‹_› | exact (hb6.cell (by first | omega | (simp; omega) | (simp; done))).trans ‹_› | exact (hb5.cell (by first | omega | (simp; omega) | (simp; done))).trans ‹_› | exact (hb4.cell (by first | omega | (simp; omega) | (simp; done))).trans ‹_› | exact (hb3.cell (by first | omega | (simp; omega) | (simp; done))).trans ‹_› | exact (hb2.cell (by first | omega | (simp; omega) | (simp; done))).trans ‹_› | exact (hb1.cell (by first | omega | (simp; omega) | (simp; done))).trans ‹_› | exact Pair.set1 (Pair.set0 ‹_› _) _ _ _ | exact (cell_stored _ (by first | (dsimp only; omega) | (simp; done) | (simp; omega)) _ _).trans ‹_› | exact Pair.drew (Pair.below ‹_› (below1 _ _)) | exact Pair.below ‹_› (below1 _ _) | exact Pair.far ‹_› (by omega) hb1 | exact Pair.new .. | exact Pair.new1 .. | exact Pair.new2 .. | (go_keep; done)) | (go_keep; done))
      (first
        | (go_at_call_of 48 (s0); refine (G0.out _ bw'.out.drew).mono ?_; rintro e w1 ⟨v1, rfl, d1, hb1⟩; have hz1 : w.heap.size + 3 ≤ w1.heap.size := (by have := hb1.size; simp at this; omega))
        | (go_at_call_of 48 (s1); refine (G1.out _ (bw'.out.drew.trans (hb1.mono (B' := w.heap.size) (by simp; omega)))).mono ?_; rintro e w2 ⟨v2, rfl, d2, hb2⟩; have d1' := d1.below hb2; have hz2 := hb2.size)
        | (go_at_call 63; refine (rplusN_any v1 v2 x y _ d1' d2 k0 k1).mono ?_; rintro e w3 ⟨v3, rfl, d3, hb3⟩; have hz3 := hb3.size)
        | (go_at_call 49; refine (FromN_any v3 _ _ d3 ks).mono ?_; rintro e w4 ⟨v4, rfl, d4, hb4⟩; have hz4 := hb4.size)
        | (go_at_call 39; refine (WholeN_any n0 v4 _ _ d4 mw).mono ?_; rintro e w5 ⟨v5, rfl, hi5, hb5⟩; obtain ⟨p5, n5, c5, rfl, hi5⟩ := hi5.shape; have hpr := Pair.below (by go_split_ands; assumption) hb5; obtain ⟨_, _, q0, q1, q2, q3⟩ := hpr.cells))
    go_wp2
    exact bodyPost_ret (v := .agg #[.bool (decide (sg n0 (x + y) < 0)), .slice p5 n5 c5]) (by simp [results, Try.results50, go_sem, q0, q1]) rfl
      ⟨_, rfl, by rw [← Hs.out]; exact hi5.stored hpr _ _ _ _, Below.stored (((((bw'.out.drew.trans (hb1.mono (B' := w.heap.size) (by simp; omega))).trans (hb2.mono (B' := w.heap.size) (by omega))).trans (hb3.mono (B' := w.heap.size) (by omega))).trans (hb4.mono (B' := w.heap.size) (by omega))).trans (hb5.mono (B' := w.heap.size) (by omega))) (by omega) _ _⟩
  · have hb : (n0 == n1) = false := beq_eq_false_iff_ne.2 hn
    go_enter Try.func50, Try.ntmps50
    go_wp2_with fail
    generalize hW : World.alloc (World.alloc (World.alloc w _) _) _ = W3
    have bw : Below w.heap.size w W3 := by rw [← hW]; exact ((below1 _ _).alloc (by simp) _).alloc (by simp; omega) _
    have hp : Pair W3 (w.heap.size + 1 + 1) 25 := by rw [← hW]; exact Pair.new2 ..
    obtain ⟨c00, c01, c10, c11, -⟩ : Two W3 w.heap.size (.bool n0) s0 (.bool n1) s1 := by rw [← hW]; exact (Two.new w _ _ _ _ _).below (below1 _ _)
    have z3 : w.heap.size + 3 ≤ W3.heap.size := by rw [← hW]; simp
    have bw' := hid bw
    clear hW bw
    by_cases hxy : x < y
    · have Hs : Hid (sg n1 (y - x) = r) := by unfold Hid; rw [sg_add_lt hn hxy, Hr.out]
      have mw : sz W (y - x) ≤ 2199023255552 := Nat.le_trans (sz_mono W2 (by omega)) (Nat.le_trans m1 (by omega))
      have ks : sz D (y - x) ≤ 8796093022208 := Nat.le_trans (sz4 _) (by omega)
      have hc := GO.out W3 bw'.out
      rw [ord_lt (by omega)] at hc
      have Hc := hid hc
      clear hc
      refine Hc.out.mono ?_
      rintro e W4 ⟨rfl, hb0⟩
      have hz0 := hb0.size
      have e00 := (hb0.cell (p := ⟨w.heap.size, 0, none⟩) (by show w.heap.size < _; omega)).trans c00
      have e01 := (hb0.cell (p := ⟨w.heap.size, 1, none⟩) (by show w.heap.size < _; omega)).trans c01
      have e10 := (hb0.cell (p := ⟨w.heap.size + 1, 0, none⟩) (by show w.heap.size + 1 < _; omega)).trans c10
      have e11 := (hb0.cell (p := ⟨w.heap.size + 1, 1, none⟩) (by show w.heap.size + 1 < _; omega)).trans c11
      have hp4 := hp.below hb0
      have bw4 := hid (bw'.out.trans (hb0.mono (B' := w.heap.size) (by omega)))
      clear c00 c01 c10 c11 hp hb0
      go_wp2_with fail
      go_region_held3 (fun w' => w'.cell? ⟨w.heap.size, 0, none⟩ = some (.bool n0) ∧ w'.cell? ⟨w.heap.size, 1, none⟩ = some s0 ∧ w'.cell? ⟨w.heap.size + 1, 0, none⟩ = some (.bool n1) ∧ w'.cell? ⟨w.heap.size + 1, 1, none⟩ = some s1 ∧ Pair w' (w.heap.size + 1 + 1) 25)
        (first | (go_split_ands; (try dsimp only); (repeat' apply And.intro) <;> first | assumption | exact Pair.drew ‹_› | exact Pair.below ‹_› hb9 | exact Pair.below ‹_› hb8 | exact Pair.below ‹_› hb7 | exact Pair.below ‹_› hb6 | exact Pair.below ‹_› hb5 | exact Pair.below ‹_› hb4 | exact Pair.below ‹_› hb3 | exact Pair.below ‹_› hb2 | exact Pair.below ‹_› hb1 | exact (hb9.cell (by first | omega | (simp; omega) | (simp; done))).trans ‹_› | exact (hb8.cell (by first | omega | (simp; omega) | (simp; done))).trans ‹_› | exact (hb7.cell (by first | omega | (simp; omega) | (simp; done))).trans ‹_› | exact (hb6.cell (by first | omega | (simp; omega) | (simp; done))).trans ‹_› | exact (hb5.cell (by first | omega | (simp; omega) | (simp; done))).trans ‹_› | exact (hb4.cell (by first | omega | (simp; omega) | (simp; done))).trans ‹_› | exact (hb3.cell (by first | omega | (simp; omega) | (simp; done))).trans ‹_› | exact (hb2.cell (by first | omega | (simp; omega) | (simp; done))).trans ‹_› | exact (hb1.cell (by first | omega | (simp; omega) | (simp; done))).trans ‹_› | exact Pair.set1 (Pair.set0 ‹_› _) _ _ _ | exact (cell_stored _ (by first | (dsimp only; omega) | (simp; done) | (simp; omega)) _ _).trans ‹_› | exact Pair.drew (Pair.below ‹_› (below1 _ _)) | exact Pair.below ‹_› (below1 _ _) | exact Pair.far ‹_› (by omega) hb1 | exact Pair.new .. | exact Pair.new1 .. | exact Pair.new2 .. | (go_keep; done)) | (go_keep; done))
        (first
          | (go_at_call_of 48 (s1); refine (G1.out _ bw4.out.drew).mono ?_; rintro e w1 ⟨v1, rfl, d1, hb1⟩; have hz1 : w.heap.size + 3 ≤ w1.heap.size := (by have := hb1.size; simp at this; omega))
          | (go_at_call_of 48 (s0); refine (G0.out _ (bw4.out.drew.trans (hb1.mono (B' := w.heap.size) (by simp; omega)))).mono ?_; rintro e w2 ⟨v2, rfl, d2, hb2⟩; have d1' := d1.below hb2; have hz2 := hb2.size)
          | (go_at_call 66; refine (rlessN_any v1 v2 y x _ d1' d2 k1 (by omega)).mono ?_; rintro e w3 ⟨v3, rfl, d3, hb3⟩; have hz3 := hb3.size)
          | (go_at_call 49; refine (FromN_any v3 _ _ d3 ks).mono ?_; rintro e w4 ⟨v4, rfl, d4, hb4⟩; have hz4 := hb4.size)
          | (go_at_call 39; refine (WholeN_any n1 v4 _ _ d4 mw).mono ?_; rintro e w5 ⟨v5, rfl, hi5, hb5⟩; obtain ⟨p5, n5, c5, rfl, hi5⟩ := hi5.shape; have hpr := Pair.below (by go_split_ands; assumption) hb5; obtain ⟨_, _, q0, q1, q2, q3⟩ := hpr.cells))
      go_wp2
      exact bodyPost_ret (v := .agg #[.bool (decide (sg n1 (y - x) < 0)), .slice p5 n5 c5]) (by simp [results, Try.results50, go_sem, q0, q1]) rfl
        ⟨_, rfl, by rw [← Hs.out]; exact hi5.stored hpr _ _ _ _, Below.stored (((((bw4.out.drew.trans (hb1.mono (B' := w.heap.size) (by simp; omega))).trans (hb2.mono (B' := w.heap.size) (by omega))).trans (hb3.mono (B' := w.heap.size) (by omega))).trans (hb4.mono (B' := w.heap.size) (by omega))).trans (hb5.mono (B' := w.heap.size) (by omega))) (by omega) _ _⟩
    · have Hs : Hid (sg n0 (x - y) = r) := by unfold Hid; rw [sg_add_ge hn hxy, Hr.out]
      have mw : sz W (x - y) ≤ 2199023255552 := Nat.le_trans (sz_mono W2 (by omega)) (Nat.le_trans m0 (by omega))
      have ks : sz D (x - y) ≤ 8796093022208 := Nat.le_trans (sz4 _) (by omega)
      have hc := GO.out W3 bw'.out
      obtain ⟨o, ho, hneg⟩ : ∃ o, o = ord (x : Int) y ∧ 0 ≤ o := ⟨_, rfl, by unfold ord; (repeat' split) <;> omega⟩
      rw [← ho] at hc
      have Hc := hid hc
      clear hc ho
      refine Hc.out.mono ?_
      rintro e W4 ⟨rfl, hb0⟩
      have hz0 := hb0.size
      have e00 := (hb0.cell (p := ⟨w.heap.size, 0, none⟩) (by show w.heap.size < _; omega)).trans c00
      have e01 := (hb0.cell (p := ⟨w.heap.size, 1, none⟩) (by show w.heap.size < _; omega)).trans c01
      have e10 := (hb0.cell (p := ⟨w.heap.size + 1, 0, none⟩) (by show w.heap.size + 1 < _; omega)).trans c10
      have e11 := (hb0.cell (p := ⟨w.heap.size + 1, 1, none⟩) (by show w.heap.size + 1 < _; omega)).trans c11
      have hp4 := hp.below hb0
      have bw4 := hid (bw'.out.trans (hb0.mono (B' := w.heap.size) (by omega)))
      clear c00 c01 c10 c11 hp hb0
      go_wp2_with fail
      go_region_held3 (fun w' => w'.cell? ⟨w.heap.size, 0, none⟩ = some (.bool n0) ∧ w'.cell? ⟨w.heap.size, 1, none⟩ = some s0 ∧ w'.cell? ⟨w.heap.size + 1, 0, none⟩ = some (.bool n1) ∧ w'.cell? ⟨w.heap.size + 1, 1, none⟩ = some s1 ∧ Pair w' (w.heap.size + 1 + 1) 25)
        (first | (go_split_ands; (try dsimp only); (repeat' apply And.intro) <;> first | assumption | exact Pair.drew ‹_› | exact Pair.below ‹_› hb9 | exact Pair.below ‹_› hb8 | exact Pair.below ‹_› hb7 | exact Pair.below ‹_› hb6 | exact Pair.below ‹_› hb5 | exact Pair.below ‹_› hb4 | exact Pair.below ‹_› hb3 | exact Pair.below ‹_› hb2 | exact Pair.below ‹_› hb1 | exact (hb9.cell (by first | omega | (simp; omega) | (simp; done))).trans ‹_› | exact (hb8.cell (by first | omega | (simp; omega) | (simp; done))).trans ‹_› | exact (hb7.cell (by first | omega | (simp; omega) | (simp; done))).trans ‹_› | exact (hb6.cell (by first | omega | (simp; omega) | (simp; done))).trans ‹_› | exact (hb5.cell (by first | omega | (simp; omega) | (simp; done))).trans ‹_› | exact (hb4.cell (by first | omega | (simp; omega) | (simp; done))).trans ‹_› | exact (hb3.cell (by first | omega | (simp; omega) | (simp; done))).trans ‹_› | exact (hb2.cell (by first | omega | (simp; omega) | (simp; done))).trans ‹_› | exact (hb1.cell (by first | omega | (simp; omega) | (simp; done))).trans ‹_› | exact Pair.set1 (Pair.set0 ‹_› _) _ _ _ | exact (cell_stored _ (by first | (dsimp only; omega) | (simp; done) | (simp; omega)) _ _).trans ‹_› | exact Pair.drew (Pair.below ‹_› (below1 _ _)) | exact Pair.below ‹_› (below1 _ _) | exact Pair.far ‹_› (by omega) hb1 | exact Pair.new .. | exact Pair.new1 .. | exact Pair.new2 .. | (go_keep; done)) | (go_keep; done))
        (first
          | (go_at_call_of 48 (s0); refine (G0.out _ bw4.out.drew).mono ?_; rintro e w1 ⟨v1, rfl, d1, hb1⟩; have hz1 : w.heap.size + 3 ≤ w1.heap.size := (by have := hb1.size; simp at this; omega))
          | (go_at_call_of 48 (s1); refine (G1.out _ (bw4.out.drew.trans (hb1.mono (B' := w.heap.size) (by simp; omega)))).mono ?_; rintro e w2 ⟨v2, rfl, d2, hb2⟩; have d1' := d1.below hb2; have hz2 := hb2.size)
          | (go_at_call 66; refine (rlessN_any v1 v2 x y _ d1' d2 k0 (by omega)).mono ?_; rintro e w3 ⟨v3, rfl, d3, hb3⟩; have hz3 := hb3.size)
          | (go_at_call 49; refine (FromN_any v3 _ _ d3 ks).mono ?_; rintro e w4 ⟨v4, rfl, d4, hb4⟩; have hz4 := hb4.size)
          | (go_at_call 39; refine (WholeN_any n0 v4 _ _ d4 mw).mono ?_; rintro e w5 ⟨v5, rfl, hi5, hb5⟩; obtain ⟨p5, n5, c5, rfl, hi5⟩ := hi5.shape; have hpr := Pair.below (by go_split_ands; assumption) hb5; obtain ⟨_, _, q0, q1, q2, q3⟩ := hpr.cells))
      go_wp2
      exact bodyPost_ret (v := .agg #[.bool (decide (sg n0 (x - y) < 0)), .slice p5 n5 c5]) (by simp [results, Try.results50, go_sem, q0, q1]) rfl
        ⟨_, rfl, by rw [← Hs.out]; exact hi5.stored hpr _ _ _ _, Below.stored (((((bw4.out.drew.trans (hb1.mono (B' := w.heap.size) (by simp; omega))).trans (hb2.mono (B' := w.heap.size) (by omega))).trans (hb3.mono (B' := w.heap.size) (by omega))).trans (hb4.mono (B' := w.heap.size) (by omega))).trans (hb5.mono (B' := w.heap.size) (by omega))) (by omega) _ _⟩
end Go.Proofs.Ytlijekppbpefaaa
