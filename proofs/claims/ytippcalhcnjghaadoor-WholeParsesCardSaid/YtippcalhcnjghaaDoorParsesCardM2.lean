/- Texts put together: Split, DivShort, Join, TimesPlus, TimesHalves, TimesWalk, RefTimes, From. -/
import Derived.Test.YtippcalhcnjghaaDoorParsesCardM1
import Derived.Laws.BitsAll
/- whole.split: words as halves of words. -/
namespace Go.Proofs.YtippcalhcnjghaaDoor
open Go.RowKit Big

theorem At.twoI (w : World) (k : IntKind) (e e' : Int) (x y : Nat) (t : TypeId) (h : e = (x : Int)) (h' : e' = (y : Int)) : At (w.alloc (.cells #[.int k e, .int k e'] t)) k (.slice (some ⟨w.heap.size, 0, none⟩) 2 2) [x, y] := by
  subst h; subst h'
  refine ⟨_, 2, rfl, by simp, by simp [maxLen], fun h => (by cases h), fun _ => ⟨_, _, rfl, by simp, fun i hi => ?_⟩⟩
  have hh := heap_alloc_new w (.cells #[.int k (x : Nat), .int k (y : Nat)] t)
  rcases (by simp at hi; omega : i = 0 ∨ i = 1) with rfl | rfl
  · exact (two_cells hh).1
  · exact (two_cells hh).2.1

theorem split_step {L l : List Nat} {k x : Nat} {hk : k < l.length} (hL : L.length = 2 * k) (hx : x = l[k]) (hv : val H L = val W (l.take k)) :
    val H (L ++ [x % 4294967296, x / 4294967296]) = val W (l.take (k + 1)) := by
  rw [val_append, val_take_succ W l k hk, hv, hL, ← hx, show H ^ (2 * k) = W ^ k by rw [Nat.pow_mul]; rfl]
  have e : val H [x % 4294967296, x / 4294967296] = x := by simp only [val, H]; omega
  rw [e]

set_option maxRecDepth 100000 in
set_option maxHeartbeats 1600000 in
theorem split_any (v : Value) (l : List Nat) (w : World) (h : At w .u64 v l) (hs : Small W l) (hlen : l.length ≤ 1099511627776) :
    Calls Tryd.prog 61 #[v] w (ROwn 67 .u32 (dig H (val W l)) w) := by
  obtain ⟨p, cap, rfl, a1, a2, a3, a4⟩ := h
  unfold maxLen at a2
  go_enter Tryd.func61, Tryd.ntmps61
  go_wp2_with (first
    | (at_make; refine wpList_make_at rfl _ _ 65 rfl elemHalves w.heap.size _ _ _ (2 * l.length) rfl rfl (by first | rfl | omega | (simp; done)) (by omega) (by simp [maxLen]; omega) (Nat.le_refl _) ?_; intro vo w1 ho hb1 hs1 hvo; clear hvo))
  go_loopw [3, 12] (fun o i wr => ∃ (k : Nat) (L : List Nat), k ≤ l.length ∧ i = .int .i64 (k : Nat) ∧ Own wr w.heap.size 67 .u32 o L ∧ Hid (L.length = 2 * k) ∧ Small H L ∧
      Hid (val H L = val W (l.take k)) ∧ Below w.heap.size w wr) (fun _ i _ => l.length - (intOf i).toNat)
  case atStart => exact ⟨0, [], Nat.zero_le _, rfl, ho, rfl, small_nil _, rfl, hb1⟩
  case round =>
    obtain ⟨k, L, hk, rfl, hown, hLk, hsl, hv, hbel⟩ := hrel
    by_cases hkl : k < l.length
    · obtain ⟨b, off, rfl, hbb, hcell⟩ := a4 (by omega)
      have e0 : wr.cell? ⟨b, off + k, none⟩ = some (.int .u64 (l[k] : Nat)) := (hbel.cell (p := ⟨b, off + k, none⟩) hbb).trans (hcell k hkl)
      have x0 := small_get hs k hkl
      obtain ⟨x, hx⟩ : ∃ x, x = l[k] := ⟨_, rfl⟩
      rw [← hx] at e0 x0
      have Hx := hid hx; clear hx hcell a4
      unfold W at x0
      go_wp2_with (at_builtin; refine wpList_append_at rfl _ _ 65 rfl elemHalves w.heap.size _ L rfl (hown.alloc _) _ [x % 4294967296, x / 4294967296] rfl (At.twoI _ _ _ _ _ _ _ (by first | rfl | omega) (by first | rfl | omega)) (by rw [hLk.out]; simp [maxLen]; omega) (by rw [hLk.out]; simp; omega) (by have := hbel.size; simp; omega) ?_; intro v2 w2 ho2 hb2 hs2)
      go_roundw
      case rel => exact ⟨k + 1, L ++ [x % 4294967296, x / 4294967296], by omega, by go_num, ho2, by have := hLk.out; unfold Hid; simp; omega,
        small_append hsl (small_cons (Nat.mod_lt _ (by decide)) (small_cons (by unfold H; omega) (small_nil _))), split_step hLk.out Hx.out hv.out, (hbel.trans ((below1 _ _).mono hbel.size)).trans hb2⟩
      case measure => (simp [intOf] <;> omega)
    · obtain rfl : k = l.length := by omega
      have hv' : Hid (strip L = dig H (val W l)) := by
        have := hv.out
        rw [List.take_length] at this
        unfold Hid
        rw [← this, strip_dig H2 hsl]
      have hst := strip_length L
      clear a4
      have ho' := hown
      obtain ⟨po, co, rfl, -⟩ := id hown.at
      go_wp2_with (go_at_call 81; refine (htrim_val _ L _ hown.at).mono ?_; rintro e w' ⟨rfl, rfl⟩; simp only [cutTo])
      go_ret
      exact ⟨_, rfl, by rw [← hv'.out]; have := ho'.take (strip L).length hst; rwa [← strip_is_take] at this, hbel⟩
end Go.Proofs.YtippcalhcnjghaaDoor
/- whole.divideShort: a quotient by one half, in place. -/
namespace Go.Proofs.YtippcalhcnjghaaDoor
open Go.RowKit Big

theorem Own.shape {w : World} {base : Nat} {e : TypeId} {k : IntKind} {v : Value} {l : List Nat} (h : Own w base e k v l) (hl : 0 < l.length) :
    ∃ g cap, v = .slice (some ⟨g, 0, none⟩) l.length cap ∧ base ≤ g ∧ g < w.heap.size ∧ l.length ≤ cap ∧ cap ≤ maxLen := by
  rcases h.2 with ⟨_, h0⟩ | ⟨g, cap, cur, hv, h1, h2, h3, h4, _⟩
  · omega
  · exact ⟨g, cap, hv, h1, (Array.getElem?_eq_some_iff.1 h2).1, h3, h4⟩
theorem Own.cell {w : World} {base : Nat} {e : TypeId} {k : IntKind} {g n cap : Nat} {l : List Nat} (h : Own w base e k (.slice (some ⟨g, 0, none⟩) n cap) l) (j : Nat) (hj : j < l.length) :
    w.cell? ⟨g, j, none⟩ = some (.int k (l[j] : Nat)) ∧ w.frozen? ⟨g, j, none⟩ = false := by
  have hn : n = l.length := by
    rcases h.2 with ⟨h1, _⟩ | ⟨g, cap, cur, hv, _⟩
    · cases h1
    · cases hv; rfl
  subst hn
  refine ⟨?_, World.ownsRow.frozenAt h j⟩
  rw [World.ownsRow.cellAt h j (by omega)]
  simp [ints, hj]
/-- a store into an owned row -/
theorem Own.set {w : World} {base : Nat} {e : TypeId} {k : IntKind} {g n cap : Nat} {l : List Nat} (h : Own w base e k (.slice (some ⟨g, 0, none⟩) n cap) l) (j x : Nat) :
    Own (w.setCell ⟨g, j, none⟩ (.int k (x : Nat))) base e k (.slice (some ⟨g, 0, none⟩) n cap) (l.set j x) ∧ w.grownBy (w.setCell ⟨g, j, none⟩ (.int k (x : Nat))) (some g) := by
  have hn : n = l.length := by
    rcases h.2 with ⟨h1, _⟩ | ⟨g, cap, cur, hv, _⟩
    · cases h1
    · cases hv; rfl
  subst hn
  have hs := World.ownsRow.stored h j (.int k (x : Nat))
  refine ⟨?_, hs.2⟩
  unfold Own
  rw [List.length_set]
  have e1 : ints k (l.set j x) = (ints k l).set j (.int k (x : Nat)) := by simp [ints, List.map_set]
  rw [e1]; exact hs.1

theorem grown_trans {a b c : World} {row : Option Nat} (h : a.grownBy b row) (k : b.grownBy c row) : a.grownBy c row :=
  ⟨k.os.trans h.os, k.tape.trans h.tape, k.output.trans h.output, Nat.le_trans h.size k.size, fun i hi hne => (k.block i (Nat.lt_of_lt_of_le hi h.size) hne).trans (h.block i hi hne)⟩

theorem or_half (a b : Nat) (ha : a < 4294967296) (hb : b < 4294967296) : bits BinOp.or IntKind.u64 ((a : Int) * 4294967296) (b : Int) = ((a * 4294967296 + b : Nat) : Int) := by
  have h := u64_or_nat (a * 4294967296) b (by omega) (by omega)
  rw [Int.natCast_mul] at h
  rw [show ((a : Int) * 4294967296) = (a : Int) * ((4294967296 : Nat) : Int) by rfl, h]
  have e := Nat.two_pow_add_eq_or_of_lt (i := 32) (b := b) (by simpa using hb) a
  rw [show (2 : Nat) ^ 32 = 4294967296 by rfl, Nat.mul_comm] at e
  rw [← e]
theorem wrap_nat (n : Nat) (h : n < W) : IntKind.u64.wrap (n : Int) = (n : Int) := by
  unfold W at h
  simp only [IntKind.wrap, IntKind.bits, IntKind.signed]
  simp
  omega
theorem set_take {l Q : List Nat} {k : Nat} (hk : k < l.length) (x : Nat) : (l.take (k + 1) ++ Q).set k x = l.take k ++ x :: Q := by
  rw [take_succ' l k hk, List.append_assoc, List.set_append_right _ _ (by simp; omega)]
  have : k - (l.take k).length = 0 := by simp; omega
  rw [this]; rfl
theorem divShort_step {l Q : List Nat} {k x rest d P : Nat} {hk : k < l.length} (hx : x = l[k]) (hP : P = rest * 4294967296 + x)
    (hv : val H l = val H (l.take (k + 1)) + H ^ (k + 1) * (d * val H Q + rest)) : val H l = val H (l.take k) + H ^ k * (d * val H (P / d :: Q) + P % d) := by
  rw [hv, val_take_succ H l k hk, ← hx, Nat.pow_succ, val_cons]
  have e : P = d * (P / d) + P % d := (Nat.div_add_mod P d).symm
  have e2 : d * (P / d) + P % d = rest * H + x := by rw [← e, hP]; rfl
  generalize P / d = q at *
  generalize P % d = r at *
  have : H ^ k * (d * (q + H * val H Q) + r) = H ^ k * (rest * H + x) + H ^ k * (d * (H * val H Q)) := by rw [← e2]; grind
  rw [this]; grind
theorem div_lt_half {P d rest x : Nat} (hP : P = rest * 4294967296 + x) (hr : rest < d) (hx : x < 4294967296) : P / d < 4294967296 := by
  rw [Nat.div_lt_iff_lt_mul (by omega)]
  have : (rest + 1) * 4294967296 ≤ d * 4294967296 := Nat.mul_le_mul_right _ hr
  rw [Nat.mul_comm 4294967296 d]
  omega

set_option maxRecDepth 100000 in
set_option maxHeartbeats 1600000 in
theorem divideShort_any (B : Nat) (v : Value) (l : List Nat) (d : Nat) (w : World) (h : Own w B 67 .u32 v l) (hs : Small H l) (hd0 : 0 < d) (hd : d < H) :
    Calls Tryd.prog 80 #[v, .int .u32 (d : Nat)] w (fun e w' => e = .returned (.tuple #[cutTo v (sz H (val H l / d)), .int .u32 (val H l % d : Nat)]) ∧
      Own w' B 67 .u32 (cutTo v (sz H (val H l / d))) (dig H (val H l / d)) ∧ w.grownBy w' v.ownBlock) := by
  by_cases hl : 0 < l.length
  · obtain ⟨g, cap, rfl, hBg, hg, hc1, hc2⟩ := h.shape hl
    unfold maxLen at hc2
    unfold H at hd
    go_enter Tryd.func80, Tryd.ntmps80
    go_wp2_with fail
    go_loopw [6, 7] (fun r i wr => ∃ (k rest : Nat) (Q : List Nat), k ≤ l.length ∧ i = .int .i64 ((k : Int) - 1) ∧ r = .int .u64 (rest : Nat) ∧ rest < d ∧ Hid (k + Q.length = l.length) ∧ Small H Q ∧
        Own wr B 67 .u32 (.slice (some ⟨g, 0, none⟩) l.length cap) (l.take k ++ Q) ∧ Hid (val H l = val H (l.take k) + H ^ k * (d * val H Q + rest)) ∧ w.grownBy wr (some g)) (fun _ i _ => (intOf i + 1).toNat)
    case atStart => exact ⟨l.length, 0, [], Nat.le_refl _, rfl, rfl, hd0, rfl, small_nil _, by simpa using h, by unfold Hid; simp [val], World.grownBy.refl _ _⟩
    case round =>
      obtain ⟨k, rest, Q, hk, rfl, rfl, hr, hQ, hsQ, hown, hv, hgr⟩ := hrel
      by_cases hk0 : 0 < k
      · obtain ⟨k, rfl⟩ : ∃ k', k = k' + 1 := ⟨k - 1, by omega⟩
        have hkl : k < (l.take (k + 1) ++ Q).length := by simp; omega
        obtain ⟨c0, f0⟩ := hown.cell k hkl
        have ex : (l.take (k + 1) ++ Q)[k] = l[k]'(by omega) := by rw [List.getElem_append_left (by simp; omega), List.getElem_take]
        have x0 := small_get hs k (by omega)
        rw [ex] at c0
        obtain ⟨x, hx⟩ : ∃ x, x = l[k]'(by omega) := ⟨_, rfl⟩
        rw [← hx] at c0 x0
        have Hx := hid hx
        unfold H at x0
        clear hx ex
        go_wp2
        obtain ⟨P, hP⟩ : ∃ P, P = rest * 4294967296 + x := ⟨_, rfl⟩
        have hor := or_half rest x (by omega) x0
        rw [← hP] at hor
        have q0 := div_lt_half hP hr x0
        have r0 : P % d < d := Nat.mod_lt _ hd0
        have hm : (bits BinOp.or IntKind.u64 ((rest : Int) * 4294967296) (x : Int)).tmod (d : Int) = ((P % d : Nat) : Int) := by rw [hor]; rfl
        have hd' : IntKind.u64.wrap ((bits BinOp.or IntKind.u64 ((rest : Int) * 4294967296) (x : Int)).tdiv (d : Int)) % 4294967296 = ((P / d : Nat) : Int) := by
          rw [hor, show ((P : Nat) : Int).tdiv (d : Int) = ((P / d : Nat) : Int) from rfl, wrap_nat _ (by unfold W; omega)]
          generalize P / d = qq at *
          omega
        have HP := hid hP
        clear hP hor
        obtain ⟨q, hq⟩ : ∃ q, q = P / d := ⟨_, rfl⟩
        obtain ⟨r, hr'⟩ : ∃ r, r = P % d := ⟨_, rfl⟩
        rw [← hq] at q0 hd'
        rw [← hr'] at r0 hm
        have Hq := hid hq; have Hr := hid hr'; have Hm := hid hm; have Hd := hid hd'
        clear hq hr' hm hd'
        go_wp2
        rw [Hm.out, Hd.out]
        have hset := hown.set k q
        have hlist := set_take (Q := Q) (show k < l.length by omega) q
        rw [hlist] at hset
        go_roundw
        case rel => exact ⟨k, r, q :: Q, by omega, rfl, rfl, r0, by have := hQ.out; unfold Hid; simp; omega, small_cons q0 hsQ, hset.1,
          by have := divShort_step (hk := by omega) Hx.out HP.out hv.out; rw [← Hq.out, ← Hr.out] at this; exact this, grown_trans hgr hset.2⟩
        case measure => (simp [intOf] <;> omega)
      · obtain rfl : k = 0 := by omega
        have hv' : val H l = d * val H Q + rest := by have := hv.out; simpa [val] using this
        have e1 : val H l / d = val H Q := by
          rw [hv', Nat.mul_add_div hd0, Nat.div_eq_of_lt hr, Nat.add_zero]
        have e2 : val H l % d = rest := by rw [hv', Nat.mul_add_mod, Nat.mod_eq_of_lt hr]
        rw [List.take_zero, List.nil_append] at hown
        have hst : Hid (strip Q = dig H (val H l / d)) := by unfold Hid; rw [e1, strip_dig H2 hsQ]
        have hsz : Hid ((strip Q).length = sz H (val H l / d)) := by unfold Hid sz; rw [hst.out]
        have E2 := hid e2
        have ht := htrim_val _ Q wr hown.at
        have Ht := hid ht
        have hstl := strip_length Q
        clear e1 e2 hv' hv ht
        have hrest : rest < 4294967296 := by omega
        go_wp2_with (go_at_call 81; refine Ht.out.mono ?_; rintro e w' ⟨rfl, rfl⟩; simp only [cutTo])
        go_ret2
        refine ⟨?_, ?_, hgr⟩
        · rw [← hsz.out, E2.out]; rfl
        · rw [← hsz.out, ← hst.out]
          have := hown.take (strip Q).length hstl
          rwa [← strip_is_take] at this
  · have hl0 : l = [] := List.eq_nil_of_length_eq_zero (by omega)
    subst hl0
    have ho := hid h
    obtain ⟨p, c, rfl, b1, b2, b3, -⟩ := h.at
    have ht := htrim_val _ [] w h.at
    have Ht := hid ht
    clear ht h
    have hstrip : (strip []).length = 0 := rfl
    rw [hstrip] at Ht
    clear hstrip
    simp only [List.length_nil] at *
    go_enter Tryd.func80, Tryd.ntmps80
    go_wp2_with fail
    refine wp_loop_rounds 1 ?_
    rw [rounds_succ]
    go_wp2_with (go_at_call 81; refine Ht.out.mono ?_; rintro e w' ⟨rfl, rfl⟩; simp only [cutTo])
    go_ret2
    have e1 : val H [] / d = 0 := by simp [val]
    have e2 : val H [] % d = 0 := by simp [val]
    refine ⟨?_, ?_, World.grownBy.refl _ _⟩
    · rw [e1, e2]; rfl
    · rw [e1]; exact ho.out
end Go.Proofs.YtippcalhcnjghaaDoor
/- whole.join: halves of words as words. -/
namespace Go.Proofs.YtippcalhcnjghaaDoor
open Go.RowKit Big

theorem half_or (a b : Nat) (ha : a < 4294967296) (hb : b < 4294967296) : bits BinOp.or IntKind.u64 (b : Int) ((a : Int) * 4294967296) = ((a * 4294967296 + b : Nat) : Int) := by
  have h := u64_or_nat b (a * 4294967296) (by omega) (by omega)
  rw [Int.natCast_mul] at h
  rw [show ((a : Int) * 4294967296) = (a : Int) * ((4294967296 : Nat) : Int) by rfl, h]
  have e := Nat.two_pow_add_eq_or_of_lt (i := 32) (b := b) (by simpa using hb) a
  rw [show (2 : Nat) ^ 32 = 4294967296 by rfl, Nat.mul_comm] at e
  rw [e, Nat.or_comm]

theorem join_step {L l : List Nat} {j x y : Nat} (hL : L.length = j) (hx : x = l[2 * j]?.getD 0) (hy : y = l[2 * j + 1]?.getD 0) (hv : val W L = val H (l.take (2 * j))) :
    val W (L ++ [y * 4294967296 + x]) = val H (l.take (2 * j + 2)) := by
  rw [show 2 * j + 2 = 2 * j + 1 + 1 by rfl, val_take_getD, val_take_getD, val_snoc, hv, hL, ← hx, ← hy, Nat.pow_succ, show H ^ (2 * j) = W ^ j by rw [Nat.pow_mul]; rfl]
  have : W ^ j * (y * 4294967296 + x) = W ^ j * x + W ^ j * H * y := by unfold H; grind
  rw [this]; omega

set_option maxRecDepth 100000 in
set_option maxHeartbeats 1600000 in
theorem join_any (v : Value) (n : Nat) (w : World) (h : At w .u32 v (dig H n)) (hlen : sz H n ≤ 4398046511104) :
    Calls Tryd.prog 59 #[v] w (ROwn 59 .u64 (dig W n) w) := by
  have hs := small_dig H2 n
  have hvn := val_dig H2 n
  have hl : (dig H n).length = sz H n := rfl
  have hp := fun h0 => pow_sz_le H2 (n := n) h0
  have hz : n = 0 → (dig H n).length = 0 := fun e => by rw [e]; rfl
  generalize sz H n = N at *
  generalize dig H n = l at *
  have Hvn := hid hvn; have Hp := hid hp; have Hz := hid hz
  clear hvn hp hz
  obtain ⟨p, cap, rfl, a1, a2, a3, a4⟩ := h
  unfold maxLen at a2
  go_enter Tryd.func59, Tryd.ntmps59
  go_wp2_with (first
    | (at_make; refine wpList_make_at rfl _ _ 23 rfl elemNat w.heap.size _ _ _ ((l.length + 1) / 2) rfl rfl (by first | rfl | omega | (simp; done)) (by omega) (by simp [maxLen]; omega) (Nat.le_refl _) ?_; intro vo w1 ho hb1 hs1 hvo; clear hvo))
  go_loopw [3, 4] (fun o i wr => ∃ (j k : Nat) (L : List Nat), Hid (k = 2 * j) ∧ k ≤ l.length + 1 ∧ i = .int .i64 (k : Nat) ∧ Own wr w.heap.size 59 .u64 o L ∧ Hid (L.length = j) ∧ j ≤ k ∧ Small W L ∧
      Hid (val W L = val H (l.take k)) ∧ Below w.heap.size w wr) (fun _ i _ => l.length + 2 - (intOf i).toNat)
  case atStart => exact ⟨0, 0, [], rfl, by omega, rfl, ho, rfl, by omega, small_nil _, rfl, hb1⟩
  case round =>
    obtain ⟨j, k, L, hkj, hk, rfl, hown, hLj, hjk, hsl, hv, hbel⟩ := hrel
    by_cases hkl : k < l.length
    · obtain ⟨b, off, rfl, hbb, hcell⟩ := a4 (by omega)
      have e0 : wr.cell? ⟨b, off + k, none⟩ = some (.int .u32 (l[k] : Nat)) := (hbel.cell (p := ⟨b, off + k, none⟩) hbb).trans (hcell k hkl)
      have x0 := small_get hs k hkl
      obtain ⟨x, hx⟩ : ∃ x, x = l[k] := ⟨_, rfl⟩
      rw [← hx] at e0 x0
      have Hx : Hid (x = l[2 * j]?.getD 0) := by unfold Hid; rw [← hkj.out]; simp [hkl, hx]
      clear hx
      unfold H at x0
      by_cases hk1 : k + 1 < l.length
      · have e1 : wr.cell? ⟨b, off + (k + 1), none⟩ = some (.int .u32 (l[k + 1] : Nat)) := (hbel.cell (p := ⟨b, off + (k + 1), none⟩) hbb).trans (hcell (k + 1) hk1)
        have y0 := small_get hs (k + 1) hk1
        obtain ⟨y, hy⟩ : ∃ y, y = l[k + 1] := ⟨_, rfl⟩
        rw [← hy] at e1 y0
        have Hy : Hid (y = l[2 * j + 1]?.getD 0) := by unfold Hid; rw [← hkj.out]; simp [hk1, hy]
        clear hy hcell a4
        unfold H at y0
        have hor := half_or y x y0 x0
        go_wp2_with (at_builtin; refine wpList_append_at rfl _ _ 23 rfl elemNat w.heap.size _ L rfl (hown.alloc _) _ [y * 4294967296 + x] rfl (At.oneI _ _ _ _ _ (by first | exact hor | (rw [hor]; done) | omega)) (by rw [hLj.out]; simp [maxLen]; omega) (by rw [hLj.out]; simp; omega) (by have := hbel.size; simp; omega) ?_; intro v2 w2 ho2 hb2 hs2)
        go_roundw
        case rel => exact ⟨j + 1, k + 2, L ++ [y * 4294967296 + x], by have := hkj.out; unfold Hid; omega, by omega, by go_num, ho2, by have := hLj.out; unfold Hid; simp; omega, by omega, small_snoc hsl (by unfold W; omega),
          by have := join_step hLj.out Hx.out Hy.out (by rw [← hkj.out]; exact hv.out); rw [← hkj.out] at this; exact this, (hbel.trans ((below1 _ _).mono hbel.size)).trans hb2⟩
        case measure => (simp [intOf] <;> omega)
      · have Hy : Hid (0 = l[2 * j + 1]?.getD 0) := by unfold Hid; rw [← hkj.out, List.getElem?_eq_none (by omega)]; rfl
        clear hcell a4
        go_wp2_with (at_builtin; refine wpList_append_at rfl _ _ 23 rfl elemNat w.heap.size _ L rfl (hown.alloc _) _ [0 * 4294967296 + x] rfl (At.oneI _ _ _ _ _ (by omega)) (by rw [hLj.out]; simp [maxLen]; omega) (by rw [hLj.out]; simp; omega) (by have := hbel.size; simp; omega) ?_; intro v2 w2 ho2 hb2 hs2)
        go_roundw
        case rel => exact ⟨j + 1, k + 2, L ++ [0 * 4294967296 + x], by have := hkj.out; unfold Hid; omega, by omega, by go_num, ho2, by have := hLj.out; unfold Hid; simp; omega, by omega, small_snoc hsl (by unfold W; omega),
          by have := join_step hLj.out Hx.out Hy.out (by rw [← hkj.out]; exact hv.out); rw [← hkj.out] at this; exact this, (hbel.trans ((below1 _ _).mono hbel.size)).trans hb2⟩
        case measure => (simp [intOf] <;> omega)
    · have hv' : Hid (L = dig W n) := by
        have e := hv.out
        rw [val_take_ge _ _ _ (by omega), Hvn.out] at e
        unfold Hid
        refine canon_val W2 hsl e ?_
        by_cases hj0 : j = 0
        · left; exact List.eq_nil_of_length_eq_zero (by rw [hLj.out, hj0])
        · right
          have hpos : 0 < n := by
            rcases Nat.eq_zero_or_pos n with h0 | h0
            · exfalso
              have := hkj.out
              have := Hz.out h0
              omega
            · exact h0
          have hp := Hp.out hpos
          rw [hLj.out]
          refine Nat.le_trans ?_ hp
          rw [show W ^ (j - 1) = H ^ (2 * (j - 1)) by rw [Nat.pow_mul]; rfl]
          exact Nat.pow_le_pow_right (by decide) (by have := hkj.out; omega)
      clear a4 hkj hv Hp Hvn
      go_wp2
      go_ret
      exact ⟨_, rfl, by rw [← hv'.out]; exact hown, hbel⟩
end Go.Proofs.YtippcalhcnjghaaDoor
/- whole.timesPlus: halves so many times as great, and more, in place. -/
namespace Go.Proofs.YtippcalhcnjghaaDoor
open Go.RowKit Big

theorem set_drop {l Q : List Nat} {k : Nat} (hQ : Q.length = k) (hk : k < l.length) (x : Nat) : (Q ++ l.drop k).set k x = (Q ++ [x]) ++ l.drop (k + 1) := by
  rw [List.set_append_right _ _ (by omega), hQ, Nat.sub_self, List.drop_eq_getElem_cons hk]
  simp only [List.set_cons_zero, List.append_assoc, List.singleton_append]
theorem timesPlus_step {l Q : List Nat} {k x f m c P : Nat} {hk : k < l.length} (hQ : Q.length = k) (hx : x = l[k]) (hP : P = x * f + c) (hv : val H Q + c * H ^ k = f * val H (l.take k) + m) :
    val H (Q ++ [P % 4294967296]) + P / 4294967296 * H ^ (k + 1) = f * val H (l.take (k + 1)) + m := by
  rw [val_snoc, val_take_succ H l k hk, hQ, ← hx, Nat.pow_succ]
  have e : P = P % 4294967296 + H * (P / 4294967296) := by unfold H; omega
  have e2 : P % 4294967296 + H * (P / 4294967296) = x * f + c := by rw [← e, hP]
  generalize P % 4294967296 = r at *
  generalize P / 4294967296 = q at *
  have : H ^ k * (r + H * q) = H ^ k * (x * f + c) := by rw [e2]
  grind
theorem prod_lt {x f c : Nat} (hx : x < 4294967296) (hf : f < 4294967296) (hc : c < 4294967296) : x * f ≤ 18446744065119617025 ∧ x * f + c < 18446744073709551616 ∧ (x * f + c) / 4294967296 < 4294967296 := by
  have h : x * f ≤ 4294967295 * 4294967295 := Nat.mul_le_mul (by omega) (by omega)
  omega

set_option maxRecDepth 100000 in
set_option maxHeartbeats 1600000 in
theorem timesPlus_any (B : Nat) (v : Value) (n f m : Nat) (w : World) (h : Own w B 67 .u32 v (dig H n)) (hf : f < H) (hf0 : 0 < f) (hm : m < H) (hlen : sz H n ≤ 4398046511104) (hB : B ≤ w.heap.size) :
    Calls Tryd.prog 58 #[v, .int .u32 (f : Nat), .int .u32 (m : Nat)] w (fun e w' => ∃ v', e = .returned v' ∧ Own w' B 67 .u32 v' (dig H (n * f + m)) ∧ Below B w w') := by
  have hs := small_dig H2 n
  have hvn := hid (val_dig H2 n)
  have hl : (dig H n).length ≤ 4398046511104 := hlen
  have hp := hid (fun h0 => pow_sz_le H2 (n := n) h0)
  have hz : n = 0 → (dig H n).length = 0 := fun e => by rw [e]; rfl
  have hnz : n ≠ 0 → 0 < (dig H n).length := fun e => Nat.pos_of_ne_zero fun e' => e ((sz_eq_zero H2).1 e')
  have hN : Hid (sz H n = (dig H n).length) := rfl
  generalize dig H n = l at *
  have Hz := hid hz; have Hnz := hid hnz
  clear hz hnz
  unfold H at hf hm
  by_cases h0 : 0 < l.length
  · obtain ⟨g, cap, rfl, hBg, hg, hc1, hc2⟩ := h.shape h0
    unfold maxLen at hc2
    go_enter Tryd.func58, Tryd.ntmps58
    go_wp2_with fail
    go_loopw [7, 15] (fun c i wr => ∃ (k c' : Nat) (Q : List Nat), k ≤ l.length ∧ i = .int .i64 (k : Nat) ∧ c = .int .u64 (c' : Nat) ∧ c' < 4294967296 ∧ Hid (Q.length = k) ∧ Small H Q ∧
        Own wr B 67 .u32 (.slice (some ⟨g, 0, none⟩) l.length cap) (Q ++ l.drop k) ∧ Hid (val H Q + c' * H ^ k = f * val H (l.take k) + m) ∧ Below B w wr ∧ w.heap.size ≤ wr.heap.size) (fun _ i _ => l.length - (intOf i).toNat)
    case atStart => exact ⟨0, m, [], Nat.zero_le _, rfl, rfl, hm, rfl, small_nil _, h, by unfold Hid; simp [val], Below.refl _ _, Nat.le_refl _⟩
    case round =>
      obtain ⟨k, c', Q, hk, rfl, rfl, hc', hQ, hsQ, hown, hv, hbel, hsz⟩ := hrel
      by_cases hkl : k < l.length
      · have hkl' : k < (Q ++ l.drop k).length := by simp; have := hQ.out; omega
        obtain ⟨cc0, f0⟩ := hown.cell k hkl'
        have ex : (Q ++ l.drop k)[k] = l[k] := by
          rw [List.getElem_append_right (by have := hQ.out; omega)]
          simp [hQ.out]
        have x0 := small_get hs k hkl
        rw [ex] at cc0
        obtain ⟨x, hx⟩ : ∃ x, x = l[k] := ⟨_, rfl⟩
        rw [← hx] at cc0 x0
        have Hx := hid hx
        unfold H at x0
        clear hx ex
        obtain ⟨p1, p2, p3⟩ := prod_lt x0 hf hc'
        obtain ⟨P, hP⟩ : ∃ P, P = x * f + c' := ⟨_, rfl⟩
        rw [← hP] at p2 p3
        have q1 : (x : Int) * (f : Int) ≤ 18446744065119617025 := by have : ((x * f : Nat) : Int) ≤ 18446744065119617025 := by omega
                                                                     rwa [Int.natCast_mul] at this
        have q2 : 0 ≤ (x : Int) * (f : Int) := by rw [← Int.natCast_mul]; omega
        have q3 : (x : Int) * (f : Int) + (c' : Int) = (P : Int) := by rw [hP]; simp
        have HP := hid hP; have Q3 := hid q3
        clear hP q3
        go_wp2
        have r1 : ((x : Int) * (f : Int) + (c' : Int)) / 4294967296 = ((P / 4294967296 : Nat) : Int) := by rw [Q3.out]; omega
        have r2 : ((x : Int) * (f : Int) + (c' : Int)) % 4294967296 = ((P % 4294967296 : Nat) : Int) := by rw [Q3.out]; omega
        rw [r1, r2]
        have hset := hown.set k (P % 4294967296)
        rw [set_drop hQ.out hkl] at hset
        go_roundw
        case rel => exact ⟨k + 1, P / 4294967296, Q ++ [P % 4294967296], by omega, by go_num, rfl, p3, by have := hQ.out; unfold Hid; simp; omega, small_snoc hsQ (Nat.mod_lt _ (by decide)), hset.1,
          timesPlus_step hQ.out Hx.out HP.out hv.out, hbel.setCell (p := ⟨g, k, none⟩) hBg _, by simpa [World.setCell] using hsz⟩
        case measure => (simp [intOf] <;> omega)
      · obtain rfl : k = l.length := by omega
        rw [List.drop_length, List.append_nil] at hown
        have hv' : val H Q + c' * H ^ l.length = f * n + m := by
          have := hv.out
          rwa [List.take_length, hvn.out] at this
        have hn0 : 0 < n := Nat.pos_of_ne_zero fun e => by have := Hz.out e; omega
        have hpn := hp.out hn0
        have hge : n ≤ f * n + m := Nat.le_trans (Nat.le_mul_of_pos_left n hf0) (Nat.le_add_right _ _)
        have hQl := hQ.out
        have Hv := hid hv'; have Hge := hid hge; have Hpn := hid hpn
        clear hv hv' hge hpn hn0 hQl
        have hcan : c' = 0 → Q = dig H (n * f + m) := fun e => by
          have := Hv.out
          rw [e, Nat.zero_mul, Nat.add_zero, Nat.mul_comm] at this
          refine canon_val H2 hsQ this (Or.inr ?_)
          rw [hQ.out, ← hN.out]
          rw [Nat.mul_comm]
          exact Nat.le_trans Hpn.out Hge.out
        have hcan1 : c' ≠ 0 → Q ++ [c'] = dig H (n * f + m) := fun e => by
          have := Hv.out
          refine canon_val H2 (small_snoc hsQ (show c' < 4294967296 from hc')) (by rw [val_snoc, hQ.out, Nat.mul_comm n f, ← this, Nat.mul_comm c']) (Or.inr ?_)
          rw [List.length_append, hQ.out, List.length_singleton, Nat.add_sub_cancel, Nat.mul_comm n f, ← this]
          have : 1 * H ^ l.length ≤ c' * H ^ l.length := Nat.mul_le_mul_right _ (by omega)
          omega
        have Hcan := hid hcan; have Hcan1 := hid hcan1
        clear hcan hcan1
        by_cases hc0 : c' = 0
        · have e := hid (Hcan.out hc0)
          subst hc0
          go_wp2
          go_ret
          exact ⟨_, rfl, by rw [← e.out]; exact hown, hbel⟩
        · have e := hid (Hcan1.out hc0)
          have hb : ((c' : Int) != 0) = true := bne_iff_ne.2 (by omega)
          go_wp2_with (at_builtin; refine wpList_append_at rfl _ _ 65 rfl elemHalves B _ Q rfl (hown.alloc _) _ [c'] rfl (At.oneI _ _ _ _ _ (by first | rfl | omega)) (by rw [hQ.out]; simp [maxLen]; omega) (by rw [hQ.out]; simp; omega) (by simp; omega) ?_; intro v2 w2 ho2 hb2 hs2)
          go_ret
          exact ⟨_, rfl, by rw [← e.out]; exact ho2, (hbel.alloc (by omega) _).trans hb2⟩
  · have hl0 : l = [] := List.eq_nil_of_length_eq_zero (by omega)
    have hn0 : n = 0 := by
      rcases Nat.eq_zero_or_pos n with h | h
      · exact h
      · exact absurd (Hnz.out (by omega)) h0
    have he : Hid (dig H (n * f + m) = if m = 0 then [] else [m]) := by
      unfold Hid
      rw [hn0, Nat.zero_mul, Nat.zero_add]
      by_cases hm0 : m = 0
      · subst hm0; rfl
      · rw [if_neg hm0, dig_one H2 (by omega) hm]
    subst hl0
    have ho := hid h
    obtain ⟨p, c, rfl, b1, b2, b3, -⟩ := h.at
    clear hn0 hN hp hvn Hz Hnz h0
    simp only [List.length_nil] at *
    by_cases hm0 : m = 0
    · rw [if_pos hm0] at he
      subst hm0
      go_enter Tryd.func58, Tryd.ntmps58
      go_wp2_with fail
      refine wp_loop_rounds 1 ?_
      rw [rounds_succ]
      go_wp2
      go_ret
      exact ⟨_, rfl, by rw [he.out]; exact ho.out, Below.refl _ _⟩
    · rw [if_neg hm0] at he
      have hb : ((m : Int) != 0) = true := bne_iff_ne.2 (by omega)
      go_enter Tryd.func58, Tryd.ntmps58
      go_wp2_with fail
      refine wp_loop_rounds 1 ?_
      rw [rounds_succ]
      go_wp2_with (at_builtin; refine wpList_append_at rfl _ _ 65 rfl elemHalves B _ [] rfl (ho.out.alloc _) _ [m] rfl (At.oneI _ _ _ _ _ (by first | rfl | omega)) (by simp [maxLen]) (by simp) (by simp; omega) ?_; intro v2 w2 ho2 hb2 hs2)
      go_ret
      exact ⟨_, rfl, by rw [he.out]; simpa using ho2, ((Below.refl _ _).alloc hB _).trans hb2⟩
end Go.Proofs.YtippcalhcnjghaaDoor
/- whole.timesHalves: products of halves of words. -/
namespace Go.Proofs.YtippcalhcnjghaaDoor
open Go.RowKit Big

theorem val_set (B : Nat) : ∀ (l : List Nat) (k x : Nat) (h : k < l.length), val B (l.set k x) + B ^ k * l[k] = val B l + B ^ k * x
  | [], k, x, h => absurd h (by simp)
  | y :: l, 0, x, _ => by simp [val]; omega
  | y :: l, k + 1, x, h => by
    have ih := val_set B l k x (by simpa using h)
    simp only [List.set_cons_succ, val, List.getElem_cons_succ, Nat.pow_succ]
    have : B * (val B (l.set k x) + B ^ k * l[k]'(by simpa using h)) = B * (val B l + B ^ k * x) := by rw [ih]
    grind
theorem small_set {B : Nat} {l : List Nat} (h : Small B l) (k : Nat) {x : Nat} (hx : x < B) : Small B (l.set k x) := by
  intro y hy
  rcases List.mem_or_eq_of_mem_set hy with h1 | h1
  · exact h y h1
  · rw [h1]; exact hx
/-- one step of a row: the product's digit, what lies there, and the carry -/
theorem times_step {O : List Nat} {k x y c P Va Vb HI HJ : Nat} (hk : k < O.length) (hP : P = x * y + O[k] + c) (hHk : H ^ k = HI * HJ)
    (hv : val H O + c * H ^ k = Va + HI * (x * Vb)) : val H (O.set k (P % 4294967296)) + P / 4294967296 * H ^ (k + 1) = Va + HI * (x * (Vb + HJ * y)) := by
  have h1 := val_set H O k (P % 4294967296) hk
  have e2 : P % 4294967296 + H * (P / 4294967296) = x * y + O[k] + c := by rw [← hP]; unfold H; omega
  rw [Nat.pow_succ]
  generalize val H (O.set k (P % 4294967296)) = V' at *
  generalize O[k] = o at *
  generalize P % 4294967296 = r at *
  generalize P / 4294967296 = q at *
  have e3 : H ^ k * (r + H * q) = H ^ k * (x * y + o + c) := by rw [e2]
  have e4 : V' + H ^ k * o + q * (H ^ k * H) = Va + HI * (x * Vb) + H ^ k * (x * y) + H ^ k * o := by grind
  rw [hHk] at e4 ⊢
  grind
theorem mulsum_lt {x y o c : Nat} (hx : x < 4294967296) (hy : y < 4294967296) (ho : o < 4294967296) (hc : c < 4294967296) :
    x * y ≤ 18446744065119617025 ∧ x * y + o + c < 18446744073709551616 ∧ (x * y + o + c) / 4294967296 < 4294967296 := by
  have h : x * y ≤ 4294967295 * 4294967295 := Nat.mul_le_mul (by omega) (by omega)
  omega
end Go.Proofs.YtippcalhcnjghaaDoor
/- whole.timesHalves: the walk. -/
namespace Go.Proofs.YtippcalhcnjghaaDoor
open Go.RowKit Big

theorem val_zeros (B n : Nat) : val B (List.replicate n 0) = 0 := by
  induction n with
  | zero => rfl
  | succ n ih => rw [List.replicate_succ, val_cons, ih]; simp
theorem small_zeros {B : Nat} (hB : 0 < B) (n : Nat) : Small B (List.replicate n 0) := fun x hx => by rw [List.eq_of_mem_replicate hx]; exact hB

set_option maxRecDepth 100000 in
set_option maxHeartbeats 3200000 in
theorem timesHalves_any (v0 v1 : Value) (l0 l1 : List Nat) (w : World) (h0 : At w .u32 v0 l0) (h1 : At w .u32 v1 l1) (s0 : Small H l0) (s1 : Small H l1)
    (hl0 : l0.length ≤ 4398046511104) (hl1 : l1.length ≤ 4398046511104) : Calls Tryd.prog 77 #[v0, v1] w (ROwn 67 .u32 (dig H (val H l0 * val H l1)) w) := by
  obtain ⟨p0, c0, rfl, a1, a2, a3, a4⟩ := h0
  obtain ⟨p1, c1, rfl, b1, b2, b3, b4⟩ := h1
  unfold maxLen at a2 b2
  go_enter Tryd.func77, Tryd.ntmps77
  go_wp2_with (first
    | (at_make; refine wpList_full_at rfl _ _ 65 rfl elemHalves w.heap.size _ _ _ _ (l0.length + l1.length) rfl rfl (by first | rfl | omega | (simp; done)) (by first | rfl | omega | (simp; done)) (by omega) (by simp [maxLen]; omega) (Nat.le_refl _) ?_; intro vo w1 ho hb1 hs1 hvo; subst hvo))
  go_loopw [20] (fun i wr => ∃ (k : Nat) (O : List Nat), k ≤ l0.length ∧ i = .int .i64 (k : Nat) ∧ Own wr w.heap.size 67 .u32 (.slice (some ⟨w.heap.size, 0, none⟩) (l0.length + l1.length) (l0.length + l1.length)) O ∧ Hid (O.length = l0.length + l1.length) ∧ Small H O ∧
      Hid (∀ j, k + l1.length ≤ j → O[j]?.getD 0 = 0) ∧ Hid (val H O = val H (l0.take k) * val H l1) ∧ Below w.heap.size w wr ∧ w.heap.size ≤ wr.heap.size) (fun i _ => l0.length - (intOf i).toNat)
  case atStart => exact ⟨0, List.replicate (l0.length + l1.length) 0, Nat.zero_le _, rfl, ho, by simp [Hid], small_zeros (by decide) _, by unfold Hid; intro j _; simp [List.getElem?_replicate]; split <;> rfl, by unfold Hid; simp [val_zeros, val], hb1, hs1⟩
  case round =>
    obtain ⟨k, O, hk, rfl, hown, hO, hsO, hz, hv, hbel, hsz⟩ := hrel
    by_cases hkl : k < l0.length
    · obtain ⟨b, off, rfl, hbb, hcell⟩ := a4 (by omega)
      have e0 : wr.cell? ⟨b, off + k, none⟩ = some (.int .u32 (l0[k] : Nat)) := (hbel.cell (p := ⟨b, off + k, none⟩) hbb).trans (hcell k hkl)
      have x0 := small_get s0 k hkl
      obtain ⟨x, hx⟩ : ∃ x, x = l0[k] := ⟨_, rfl⟩
      rw [← hx] at e0 x0
      have Hx := hid hx; clear hx hcell a4
      unfold H at x0
      go_wp2_with fail
      go_loopw [8, 27] (fun c j wq => ∃ (i c' : Nat) (Q : List Nat), i ≤ l1.length ∧ j = .int .i64 (i : Nat) ∧ c = .int .u64 (c' : Nat) ∧ c' < 4294967296 ∧ Own wq w.heap.size 67 .u32 (.slice (some ⟨w.heap.size, 0, none⟩) (l0.length + l1.length) (l0.length + l1.length)) Q ∧ Hid (Q.length = l0.length + l1.length) ∧ Small H Q ∧
        Hid (∀ j, k + l1.length ≤ j → Q[j]?.getD 0 = 0) ∧ Hid (val H Q + c' * H ^ (k + i) = val H (l0.take k) * val H l1 + H ^ k * (x * val H (l1.take i))) ∧ Below w.heap.size w wq ∧ w.heap.size ≤ wq.heap.size) (fun _ j _ => l1.length - (intOf j).toNat)
      case atStart => exact ⟨0, 0, O, Nat.zero_le _, rfl, rfl, by omega, hown, hO, hsO, hz, by have := hv.out; unfold Hid; simp [val, this], hbel, hsz⟩
      case round =>
        obtain ⟨i, c', Q, hi, rfl, rfl, hc', hown', hQ, hsQ, hzQ, hvQ, hbel', hsz'⟩ := hrel
        by_cases hil : i < l1.length
        · obtain ⟨b', off', rfl, hbb', hcell'⟩ := b4 (by omega)
          have e1 := (hbel'.cell (p := ⟨b', off' + i, none⟩) hbb').trans (hcell' i hil)
          have y0 := small_get s1 i hil
          obtain ⟨y, hy⟩ : ∃ y, y = l1[i] := ⟨_, rfl⟩
          rw [← hy] at e1 y0
          have Hy := hid hy; clear hy hcell' b4
          unfold H at y0
          have hkq : k + i < Q.length := by rw [hQ.out]; omega
          obtain ⟨cc0, f0⟩ := hown'.cell (k + i) hkq
          have o0 := small_get hsQ (k + i) hkq
          obtain ⟨o, ho'⟩ : ∃ o, o = Q[k + i] := ⟨_, rfl⟩
          rw [← ho'] at cc0 o0
          have Ho := hid ho'; clear ho'
          unfold H at o0
          obtain ⟨m1, m2, m3⟩ := mulsum_lt x0 y0 o0 hc'
          obtain ⟨P, hP⟩ : ∃ P, P = x * y + o + c' := ⟨_, rfl⟩
          rw [← hP] at m2 m3
          have q1 : (x : Int) * (y : Int) ≤ 18446744065119617025 := by
            have : ((x * y : Nat) : Int) ≤ 18446744065119617025 := by omega
            rwa [Int.natCast_mul] at this
          have q2 : 0 ≤ (x : Int) * (y : Int) := by rw [← Int.natCast_mul]; omega
          have q3 : (x : Int) * (y : Int) + (o : Int) + (c' : Int) = (P : Int) := by rw [hP]; simp
          have q4 : (x : Int) * (y : Int) + (o : Int) + (c' : Int) ≤ 18446744073709551615 := by rw [q3]; omega
          have HP := hid hP; have Q3 := hid q3
          clear hP q3
          go_wp2
          have r1 : ((x : Int) * (y : Int) + (o : Int) + (c' : Int)) / 4294967296 = ((P / 4294967296 : Nat) : Int) := by rw [Q3.out]; omega
          have r2 : ((x : Int) * (y : Int) + (o : Int) + (c' : Int)) % 4294967296 = ((P % 4294967296 : Nat) : Int) := by rw [Q3.out]; omega
          rw [r1, r2]
          have hset := hown'.set (k + i) (P % 4294967296)
          have hz' : ∀ j, k + l1.length ≤ j → (Q.set (k + i) (P % 4294967296))[j]?.getD 0 = 0 := fun j hj => by
            rw [List.getElem?_set_ne (by omega)]; exact hzQ.out j hj
          have hv' : val H (Q.set (k + i) (P % 4294967296)) + P / 4294967296 * H ^ (k + (i + 1)) = val H (l0.take k) * val H l1 + H ^ k * (x * val H (l1.take (i + 1))) := by
            have := times_step (HI := H ^ k) (HJ := H ^ i) (y := y) hkq (show P = x * y + Q[k + i] + c' by rw [← Ho.out]; exact HP.out) (Nat.pow_add ..) hvQ.out
            rw [val_take_succ H l1 i hil, ← Hy.out]
            exact this
          go_roundw
          case rel => exact ⟨i + 1, P / 4294967296, Q.set (k + i) (P % 4294967296), by omega, by go_num, rfl, m3, hset.1, by unfold Hid; rw [List.length_set]; exact hQ.out, small_set hsQ _ (Nat.mod_lt _ (by decide)), hz', hv',
            hbel'.setCell (p := ⟨w.heap.size, k + i, none⟩) (Nat.le_refl _) _, by simpa [World.setCell] using hsz'⟩
          case measure => (simp [intOf] <;> omega)
        · obtain rfl : i = l1.length := by omega
          have hkq : k + l1.length < Q.length := by rw [hQ.out]; omega
          obtain ⟨cc0, f0⟩ := hown'.cell (k + l1.length) hkq
          have o0 : Q[k + l1.length] = 0 := by have := hzQ.out (k + l1.length) (Nat.le_refl _); simpa [hkq] using this
          have hvs := val_set H Q (k + l1.length) c' hkq
          rw [o0, Nat.mul_zero, Nat.add_zero] at hvs
          have hset := hown'.set (k + l1.length) c'
          have hv' : val H (Q.set (k + l1.length) c') = val H (l0.take (k + 1)) * val H l1 := by
            have := hvQ.out
            rw [List.take_length] at this
            rw [hvs, val_take_succ H l0 k hkl, ← Hx.out, Nat.add_mul, Nat.mul_comm (H ^ (k + l1.length)), this, Nat.mul_assoc]
          have hz' : ∀ j, k + 1 + l1.length ≤ j → (Q.set (k + l1.length) c')[j]?.getD 0 = 0 := fun j hj => by
            rw [List.getElem?_set_ne (by omega)]; exact hzQ.out j (by omega)
          have HV := hid hv'
          clear hvs hv' o0 b4
          have hmod : (c' : Int) % 4294967296 = (c' : Int) := by omega
          go_wp2
          first | rw [hmod] | skip
          go_roundw
          case rel => exact ⟨k + 1, Q.set (k + l1.length) c', by omega, by go_num, hset.1, by unfold Hid; rw [List.length_set]; exact hQ.out, small_set hsQ _ (show c' < 4294967296 from hc'), hz', HV.out,
            hbel'.setCell (p := ⟨w.heap.size, k + l1.length, none⟩) (Nat.le_refl _) _, by simpa [World.setCell] using hsz'⟩
          case measure => (simp [intOf] <;> omega)
    · obtain rfl : k = l0.length := by omega
      have hv' : Hid (strip O = dig H (val H l0 * val H l1)) := by
        have := hv.out
        rw [List.take_length] at this
        unfold Hid
        rw [← this, strip_dig H2 hsO]
      have hst := strip_length O
      have ht := hid (htrim_val _ O wr hown.at)
      clear a4 b4
      go_wp2_with (go_at_call 81; refine ht.out.mono ?_; rintro e w' ⟨rfl, rfl⟩; simp only [cutTo])
      go_ret
      exact ⟨_, rfl, by rw [← hv'.out]; have := hown.take (strip O).length hst; rwa [← strip_is_take] at this, hbel⟩
end Go.Proofs.YtippcalhcnjghaaDoor
/- elenchusref01.times: products of digits. -/
namespace Go.Proofs.YtippcalhcnjghaaDoor
open Go.RowKit Big

theorem rtimes_step {O : List Nat} {k x y c P Va Vb DI DJ : Nat} (hk : k < O.length) (hP : P = c + O[k] + x * y) (hDk : D ^ k = DI * DJ)
    (hv : val D O + c * D ^ k = Va + DI * (x * Vb)) : val D (O.set k (P % 65536)) + P / 65536 * D ^ (k + 1) = Va + DI * (x * (Vb + DJ * y)) := by
  have h1 := val_set D O k (P % 65536) hk
  have e2 : P % 65536 + D * (P / 65536) = c + O[k] + x * y := by rw [← hP]; unfold D; omega
  rw [Nat.pow_succ]
  generalize val D (O.set k (P % 65536)) = V' at *
  generalize O[k] = o at *
  generalize P % 65536 = r at *
  generalize P / 65536 = q at *
  have e3 : D ^ k * (r + D * q) = D ^ k * (c + o + x * y) := by rw [e2]
  rw [hDk] at e3 h1 hv ⊢
  have g1 : q * (DI * DJ * D) = DI * DJ * (D * q) := by rw [Nat.mul_left_comm, Nat.mul_comm q D]
  have g2 : DI * (x * (Vb + DJ * y)) = DI * (x * Vb) + DI * DJ * (x * y) := by rw [Nat.mul_add, Nat.mul_add, Nat.mul_assoc DI DJ, Nat.mul_left_comm x DJ y]
  have g3 : c * (DI * DJ) = DI * DJ * c := Nat.mul_comm ..
  simp only [Nat.mul_add] at e3
  rw [g1, g2]
  rw [g3] at hv
  omega
theorem dsum_lt {x y o c : Nat} (hx : x < 65536) (hy : y < 65536) (ho : o < 65536) (hc : c < 65536) : x * y ≤ 4294836225 ∧ c + o + x * y ≤ 4294967295 ∧ (c + o + x * y) / 65536 < 65536 := by
  have h : x * y ≤ 65535 * 65535 := Nat.mul_le_mul (by omega) (by omega)
  omega

set_option maxRecDepth 100000 in
set_option maxHeartbeats 3200000 in
theorem rtimes_any (v0 v1 : Value) (l0 l1 : List Nat) (w : World) (h0 : At w .i64 v0 l0) (h1 : At w .i64 v1 l1) (s0 : Small D l0) (s1 : Small D l1)
    (hl0 : l0.length ≤ 4398046511104) (hl1 : l1.length ≤ 4398046511104) : Calls Tryd.prog 52 #[v0, v1] w (RAt .i64 (dig D (val D l0 * val D l1)) w) := by
  have g1 : ∀ (k : Nat) W, Below w.heap.size w W → Calls Tryd.prog 71 #[v1, .int .i64 (k : Nat)] W fun e w' => e = .returned (.int .i64 (l1[k]?.getD 0 : Nat)) ∧ w' = W := fun k W hb => at_any v1 l1 k W (h1.below hb)
  have G1 := hid g1
  clear g1
  obtain ⟨p0, c0, rfl, a1, a2, a3, a4⟩ := h0
  obtain ⟨p1, c1, rfl, b1, b2, b3, -⟩ := h1
  unfold maxLen at a2 b2
  go_enter Tryd.func52, Tryd.ntmps52
  go_wp2_with (first
    | (at_make; refine wpList_full_at rfl _ _ 53 rfl elemInts w.heap.size _ _ _ _ (l0.length + l1.length + 1) rfl rfl (by first | rfl | omega | (simp; done)) (by first | rfl | omega | (simp; done)) (by omega) (by simp [maxLen]; omega) (Nat.le_refl _) ?_; intro vo w1 ho hb1 hs1 hvo; subst hvo))
  go_loopw [18] (fun i wr => ∃ (k : Nat) (O : List Nat), k ≤ l0.length ∧ i = .int .i64 (k : Nat) ∧ Own wr w.heap.size 3 .i64 (.slice (some ⟨w.heap.size, 0, none⟩) (l0.length + l1.length + 1) (l0.length + l1.length + 1)) O ∧ Hid (O.length = l0.length + l1.length + 1) ∧ Small D O ∧
      Hid (∀ j, k + l1.length ≤ j → O[j]?.getD 0 = 0) ∧ Hid (val D O = val D (l0.take k) * val D l1) ∧ Below w.heap.size w wr ∧ w.heap.size ≤ wr.heap.size) (fun i _ => l0.length - (intOf i).toNat)
  case atStart => exact ⟨0, List.replicate (l0.length + l1.length + 1) 0, Nat.zero_le _, rfl, ho, by simp [Hid], small_zeros (by decide) _, by unfold Hid; intro j _; simp [List.getElem?_replicate]; split <;> rfl, by unfold Hid; simp [val_zeros, val], hb1, hs1⟩
  case round =>
    obtain ⟨k, O, hk, rfl, hown, hO, hsO, hz, hv, hbel, hsz⟩ := hrel
    by_cases hkl : k < l0.length
    · obtain ⟨b, off, rfl, hbb, hcell⟩ := a4 (by omega)
      have x0 := small_get s0 k hkl
      obtain ⟨x, hx⟩ : ∃ x, x = l0[k] := ⟨_, rfl⟩
      have hcx := hcell k hkl
      rw [← hx] at x0 hcx
      have Hx := hid hx; have Hcx := hid hcx; clear hx hcell a4 hcx
      unfold D at x0
      go_wp2_with fail
      go_loopw [7, 8] (fun c j wq => ∃ (i c' : Nat) (Q : List Nat), (i ≤ l1.length ∨ (i = l1.length + 1 ∧ c' = 0)) ∧ j = .int .i64 (i : Nat) ∧ c = .int .i64 (c' : Nat) ∧ c' < 65536 ∧ Own wq w.heap.size 3 .i64 (.slice (some ⟨w.heap.size, 0, none⟩) (l0.length + l1.length + 1) (l0.length + l1.length + 1)) Q ∧ Hid (Q.length = l0.length + l1.length + 1) ∧ Small D Q ∧
        Hid (∀ j, k + 1 + l1.length ≤ j → Q[j]?.getD 0 = 0) ∧ Hid (i ≤ l1.length → Q[k + l1.length]?.getD 0 = 0) ∧ Hid (val D Q + c' * D ^ (k + i) = val D (l0.take k) * val D l1 + D ^ k * (x * val D (l1.take i))) ∧ Below w.heap.size w wq ∧ w.heap.size ≤ wq.heap.size) (fun _ j _ => l1.length + 2 - (intOf j).toNat)
      case atStart => exact ⟨0, 0, O, Or.inl (Nat.zero_le _), rfl, rfl, by omega, hown, hO, hsO, by intro j hj; exact hz.out j (by omega), by intro _; exact hz.out _ (Nat.le_refl _), by have := hv.out; unfold Hid; simp [val, this], hbel, hsz⟩
      case round =>
        obtain ⟨i, c', Q, hi, rfl, rfl, hc', hown', hQ, hsQ, hzQ, hzK, hvQ, hbel', hsz'⟩ := hrel
        by_cases hgo : i < l1.length ∨ 0 < c'
        · have hil : i ≤ l1.length := by omega
          have e0 : wr.cell? ⟨b, off + k, none⟩ = some (.int .i64 (x : Nat)) := (hbel'.cell (p := ⟨b, off + k, none⟩) hbb).trans Hcx.out
          obtain ⟨y, hy⟩ : ∃ y, y = l1[i]?.getD 0 := ⟨_, rfl⟩
          have y0 : y < 65536 := by rw [hy]; exact small_getD s1 (by decide) i
          have t1 := fun n => G1.out i (wr.drewN n) (below_drewN hbel' n)
          rw [← hy] at t1
          have T1 := hid t1; have Hy := hid hy; clear t1 hy
          have hkq : k + i < Q.length := by rw [hQ.out]; omega
          obtain ⟨cc0, f0⟩ := hown'.cell (k + i) hkq
          have o0 := small_get hsQ (k + i) hkq
          obtain ⟨o, ho'⟩ : ∃ o, o = Q[k + i] := ⟨_, rfl⟩
          rw [← ho'] at cc0 o0
          have Ho := hid ho'; clear ho'
          unfold D at o0
          obtain ⟨m1, m2, m3⟩ := dsum_lt x0 y0 o0 hc'
          obtain ⟨P, hP⟩ : ∃ P, P = c' + o + x * y := ⟨_, rfl⟩
          rw [← hP] at m2 m3
          have q1 : (x : Int) * (y : Int) ≤ 4294836225 := by
            have : ((x * y : Nat) : Int) ≤ 4294836225 := by omega
            rwa [Int.natCast_mul] at this
          have q2 : 0 ≤ (x : Int) * (y : Int) := by rw [← Int.natCast_mul]; omega
          have q3 : (c' : Int) + (o : Int) + (x : Int) * (y : Int) = (P : Int) := by rw [hP]; simp
          have HP := hid hP; have Q3 := hid q3
          clear hP q3
          have hset := hown'.set (k + i) (P % 65536)
          have hv' : val D (Q.set (k + i) (P % 65536)) + P / 65536 * D ^ (k + (i + 1)) = val D (l0.take k) * val D l1 + D ^ k * (x * val D (l1.take (i + 1))) := by
            have := rtimes_step (DI := D ^ k) (DJ := D ^ i) (x := x) (y := y) hkq (show P = c' + Q[k + i] + x * y by rw [← Ho.out]; exact HP.out) (Nat.pow_add ..) hvQ.out
            rw [val_take_getD D l1 i, ← Hy.out]
            exact this
          have hz' : ∀ j, k + 1 + l1.length ≤ j → (Q.set (k + i) (P % 65536))[j]?.getD 0 = 0 := fun j hj => by
            rw [List.getElem?_set_ne (by omega)]; exact hzQ.out j hj
          have hzk' : i + 1 ≤ l1.length → (Q.set (k + i) (P % 65536))[k + l1.length]?.getD 0 = 0 := fun h => by
            rw [List.getElem?_set_ne (by omega)]; exact hzK.out (by omega)
          have hn : i + 1 ≤ l1.length ∨ (i + 1 = l1.length + 1 ∧ P / 65536 = 0) := by
            by_cases h : i < l1.length
            · exact Or.inl (by omega)
            · right
              have e : i = l1.length := by omega
              refine ⟨by omega, ?_⟩
              have y00 : y = 0 := by rw [Hy.out, List.getElem?_eq_none (by omega)]; rfl
              have o00 : o = 0 := by
                have := hzK.out hil
                rw [Ho.out]
                rw [← e] at this
                simpa [hkq] using this
              rw [HP.out, y00, o00]; omega
          have Hv' := hid hv'; have Hz' := hid hz'; have Hzk' := hid hzk'; have Hn := hid hn
          clear hv' hz' hzk' hn hi
          rcases (by omega : i < l1.length ∨ (¬ i < l1.length ∧ 0 < c')) with h | ⟨h, h'⟩
          all_goals
            go_wp2_with fail
            go_quiet ((go_at_call 71; exact Calls.quiet_of_same (T1.out _)))
            go_wp2_with fail
            have r1 : ((c' : Int) + (o : Int) + (x : Int) * (y : Int)) / 65536 = ((P / 65536 : Nat) : Int) := by rw [Q3.out]; omega
            have r2 : ((c' : Int) + (o : Int) + (x : Int) * (y : Int)) % 65536 = ((P % 65536 : Nat) : Int) := by rw [Q3.out]; omega
            rw [r1, r2]
            have hset := (hown'.kept (below_drewN (Below.refl _ _) nq)).set (k + i) (P % 65536)
            go_roundw
            case rel => exact ⟨i + 1, P / 65536, Q.set (k + i) (P % 65536), Hn.out, by go_num, rfl, m3, hset.1, by unfold Hid; rw [List.length_set]; exact hQ.out, small_set hsQ _ (Nat.mod_lt _ (by decide)), Hz'.out, Hzk'.out, Hv'.out,
              (below_drewN hbel' nq).setCell (p := ⟨w.heap.size, k + i, none⟩) (Nat.le_refl _) _, by simpa [World.setCell] using hsz'⟩
            case measure => (simp [intOf] <;> omega)
        · have hc0 : c' = 0 := by omega
          subst hc0
          have h : ¬ i < l1.length := by omega
          have hv' : Hid (val D Q = val D (l0.take (k + 1)) * val D l1) := by
            have := hvQ.out
            rw [Nat.zero_mul, Nat.add_zero, val_take_ge D l1 i (by omega)] at this
            unfold Hid
            rw [this, val_take_succ D l0 k hkl, ← Hx.out, Nat.add_mul, Nat.mul_assoc]
          clear hgo hi hvQ
          go_wp2_with fail
          go_roundw
          case rel => exact ⟨k + 1, Q, by omega, by go_num, hown', hQ, hsQ, hzQ.out, hv'.out, hbel', hsz'⟩
          case measure => (simp [intOf] <;> omega)
    · obtain rfl : k = l0.length := by omega
      have hv' : Hid (strip O = dig D (val D l0 * val D l1)) := by
        have := hv.out
        rw [List.take_length] at this
        unfold Hid
        rw [← this, strip_dig D2 hsO]
      clear a4
      go_wp2_with (go_at_call 70; refine (rtrim_any _ O _ hown.at).mono ?_; rintro e w' ⟨v', rfl, hv'', rfl⟩)
      go_ret
      exact ⟨_, rfl, by rw [← hv'.out]; exact hv'', hbel⟩
end Go.Proofs.YtippcalhcnjghaaDoor
/- elenchusref01.From: digits of sixteen bits as words. -/
namespace Go.Proofs.YtippcalhcnjghaaDoor
open Go.RowKit Big

theorem take_next (l : List Nat) (i : Nat) : val D (l.take (i + 4)) = val D (l.take i) + D ^ i * (l[i]?.getD 0 + 65536 * (l[i + 1]?.getD 0 + 65536 * (l[i + 2]?.getD 0 + 65536 * l[i + 3]?.getD 0))) := by
  rw [show i + 4 = i + 3 + 1 by rfl, val_take_getD, show i + 3 = i + 2 + 1 by rfl, val_take_getD, show i + 2 = i + 1 + 1 by rfl, val_take_getD, val_take_getD]
  have h1 : D ^ (i + 1) = D ^ i * 65536 := Nat.pow_succ ..
  have h2 : D ^ (i + 1 + 1) = D ^ i * 65536 * 65536 := by rw [Nat.pow_succ, h1]; rfl
  have h3 : D ^ (i + 1 + 1 + 1) = D ^ i * 65536 * 65536 * 65536 := by rw [Nat.pow_succ, h2]; rfl
  rw [h1, h2, h3]
  grind
theorem from_step {L l : List Nat} {i j x0 x1 x2 x3 : Nat} (hi : i = 4 * j) (hL : L.length = j) (hv : val W L = val D (l.take i))
    (h0 : x0 = l[i]?.getD 0) (h1 : x1 = l[i + 1]?.getD 0) (h2 : x2 = l[i + 2]?.getD 0) (h3 : x3 = l[i + 3]?.getD 0) : val W (L ++ [((x3 * 65536 + x2) * 65536 + x1) * 65536 + x0]) = val D (l.take (i + 4)) := by
  rw [take_next, val_snoc, hv, hL, h0, h1, h2, h3, hi, show D ^ (4 * j) = W ^ j by rw [Nat.pow_mul]; rfl]
  grind

theorem num_eq {k : IntKind} {a b : Int} (h : a = b) : Value.int k a = Value.int k b := by rw [h]

/-- what has been put together of four digits -/
def acc (x0 x1 x2 x3 : Nat) : Nat → Nat
  | 0 => ((x3 * 65536 + x2) * 65536 + x1) * 65536 + x0
  | 1 => (x3 * 65536 + x2) * 65536 + x1
  | 2 => x3 * 65536 + x2
  | 3 => x3
  | _ => 0

set_option maxRecDepth 100000 in
set_option maxHeartbeats 3200000 in
theorem From_any (v : Value) (l : List Nat) (w : World) (h : At w .i64 v l) (hs : Small D l) (hlen : l.length ≤ 8796093022208) :
    Calls Tryd.prog 43 #[v] w (RAt .u64 (dig W (val D l)) w) := by
  have hv0 : val D (strip l) = val D l := by rw [strip_dig D2 hs, val_dig D2]
  have hs' : Small D (strip l) := by rw [strip_dig D2 hs]; exact small_dig D2 _
  have hl' : (strip l).length ≤ 8796093022208 := Nat.le_trans (strip_length l) hlen
  have hlast : strip l = dig D (val D l) := strip_dig D2 hs
  have G := hid (rtrim_any v l w h)
  rw [← hv0] at hlast ⊢
  clear h hlen hs hv0
  generalize strip l = l' at *
  have Hl := hid hlast; clear hlast
  go_enter Tryd.func43, Tryd.ntmps43
  go_wp2_with fail
  refine G.out.mono ?_
  rintro e w' ⟨v', rfl, ⟨p, cap, rfl, a1, a2, a3, a4⟩, rfl⟩
  unfold maxLen at a2
  go_wp2_with fail
  go_loopw [3, 4] (fun o s wr => ∃ (i j : Nat) (L : List Nat), i ≤ l'.length + 3 ∧ Hid (i = 4 * j) ∧ s = .int .i64 (i : Nat) ∧ Own wr w.heap.size 59 .u64 o L ∧ Hid (L.length = j) ∧ j ≤ i ∧ Small W L ∧
      Hid (val W L = val D (l'.take i)) ∧ Below w.heap.size w wr) (fun _ s _ => l'.length + 4 - (intOf s).toNat)
  case atStart => exact ⟨0, 0, [], by omega, rfl, rfl, Own.nil _ _ _ _, rfl, by omega, small_nil _, rfl, Below.refl _ _⟩
  case round =>
    obtain ⟨i, j, L, hi, hij, rfl, hown, hLj, hji, hsl, hv, hbel⟩ := hrel
    by_cases hil : i < l'.length
    · obtain ⟨b, off, rfl, hbb, hcell⟩ := a4 (by omega)
      obtain ⟨x0, hx0⟩ : ∃ x, x = l'[i]?.getD 0 := ⟨_, rfl⟩
      obtain ⟨x1, hx1⟩ : ∃ x, x = l'[i + 1]?.getD 0 := ⟨_, rfl⟩
      obtain ⟨x2, hx2⟩ : ∃ x, x = l'[i + 2]?.getD 0 := ⟨_, rfl⟩
      obtain ⟨x3, hx3⟩ : ∃ x, x = l'[i + 3]?.getD 0 := ⟨_, rfl⟩
      have y0 : x0 < 65536 := by rw [hx0]; exact small_getD hs' (by decide) _
      have y1 : x1 < 65536 := by rw [hx1]; exact small_getD hs' (by decide) _
      have y2 : x2 < 65536 := by rw [hx2]; exact small_getD hs' (by decide) _
      have y3 : x3 < 65536 := by rw [hx3]; exact small_getD hs' (by decide) _
      have cell : ∀ m, i + m < l'.length → wr.cell? ⟨b, off + (i + m), none⟩ = some (.int .i64 (l'[i + m]?.getD 0 : Nat)) := fun m hm => by
        rw [(hbel.cell (p := ⟨b, off + (i + m), none⟩) hbb).trans (hcell (i + m) hm)]; simp [hm]
      have zero : ∀ m, ¬ i + m < l'.length → l'[i + m]?.getD 0 = 0 := fun m hm => by rw [List.getElem?_eq_none (by omega)]; rfl
      have Cell := hid cell
      have Zero := hid zero
      have Hx0 := hid hx0; have Hx1 := hid hx1; have Hx2 := hid hx2; have Hx3 := hid hx3
      clear cell zero hx0 hx1 hx2 hx3 hcell a4
      go_wp2_with fail
      obtain ⟨wo, rfl⟩ : ∃ wo : World, wo = wr := ⟨_, rfl⟩
      go_loopw [5, 6] (fun a s wq => ∃ m : Nat, m ≤ 4 ∧ s = .int .i64 ((m : Int) - 1) ∧ a = .int .u64 (acc x0 x1 x2 x3 m : Nat) ∧ wq = wo) (fun _ s _ => (intOf s + 1).toNat)
      case atStart => exact ⟨4, by omega, rfl, rfl, rfl⟩
      case round =>
        obtain ⟨m, hm, rfl, rfl, rfl⟩ := hrel
        by_cases hm0 : 0 < m
        · rcases (by omega : m = 4 ∨ m = 3 ∨ m = 2 ∨ m = 1) with rfl | rfl | rfl | rfl
          · by_cases hin : i + 3 < l'.length
            · skip
              have c := Cell.out 3 hin
              rw [← Hx3.out] at c
              simp only [acc]
              go_wp2
              go_roundw
              case rel => exact ⟨3, by omega, rfl, num_eq (by first | rfl | omega | (simp only; omega)), by trivial⟩
              case measure => simp [intOf]
            · skip
              have hz : x3 = 0 := by rw [Hx3.out]; exact Zero.out 3 hin
              have Hz := hid hz
              clear hz
              simp only [acc]
              go_wp2
              go_roundw
              case rel => exact ⟨3, by omega, rfl, num_eq (by have := Hz.out; first | omega | (simp only; omega)), by trivial⟩
              case measure => simp [intOf]
          · by_cases hin : i + 2 < l'.length
            · skip
              have c := Cell.out 2 hin
              rw [← Hx2.out] at c
              simp only [acc]
              go_wp2
              go_roundw
              case rel => exact ⟨2, by omega, rfl, num_eq (by first | rfl | omega | (simp only; omega)), by trivial⟩
              case measure => simp [intOf]
            · skip
              have hz : x2 = 0 := by rw [Hx2.out]; exact Zero.out 2 hin
              have Hz := hid hz
              clear hz
              simp only [acc]
              go_wp2
              go_roundw
              case rel => exact ⟨2, by omega, rfl, num_eq (by have := Hz.out; first | omega | (simp only; omega)), by trivial⟩
              case measure => simp [intOf]
          · by_cases hin : i + 1 < l'.length
            · skip
              have c := Cell.out 1 hin
              rw [← Hx1.out] at c
              simp only [acc]
              go_wp2
              go_roundw
              case rel => exact ⟨1, by omega, rfl, num_eq (by first | rfl | omega | (simp only; omega)), by trivial⟩
              case measure => simp [intOf]
            · skip
              have hz : x1 = 0 := by rw [Hx1.out]; exact Zero.out 1 hin
              have Hz := hid hz
              clear hz
              simp only [acc]
              go_wp2
              go_roundw
              case rel => exact ⟨1, by omega, rfl, num_eq (by have := Hz.out; first | omega | (simp only; omega)), by trivial⟩
              case measure => simp [intOf]
          · by_cases hin : i + 0 < l'.length
            · skip
              have c := Cell.out 0 hin
              simp only [Nat.add_zero] at c
              rw [← Hx0.out] at c
              simp only [acc]
              go_wp2
              go_roundw
              case rel => exact ⟨0, by omega, rfl, num_eq (by first | rfl | omega | (simp only; omega)), by trivial⟩
              case measure => simp [intOf]
            · exact absurd hil (by simpa using hin)
        · obtain rfl : m = 0 := by omega
          simp only [acc]
          go_wp2_with (at_builtin; refine wpList_append_at rfl _ _ 23 rfl elemNat w.heap.size _ L rfl (hown.alloc _) _ [((x3 * 65536 + x2) * 65536 + x1) * 65536 + x0] rfl (At.oneI _ _ _ _ _ (by omega)) (by rw [hLj.out]; simp [maxLen]; omega) (by rw [hLj.out]; simp; omega) (by have := hbel.size; simp; omega) ?_; intro v2 w2 ho2 hb2 hs2)
          go_roundw
          case rel => exact ⟨i + 4, j + 1, L ++ [((x3 * 65536 + x2) * 65536 + x1) * 65536 + x0], by omega, by have := hij.out; unfold Hid; omega, by go_num, ho2, by have := hLj.out; unfold Hid; simp; omega, by omega,
            small_snoc hsl (by unfold W; omega), from_step hij.out hLj.out hv.out Hx0.out Hx1.out Hx2.out Hx3.out, (hbel.trans ((below1 _ _).mono hbel.size)).trans hb2⟩
          case measure => simp [intOf]; omega
    · have hv' : Hid (L = dig W (val D l')) := by
        have e := hv.out
        rw [val_take_ge _ _ _ (by omega)] at e
        unfold Hid
        rw [← e]
        refine canon W2 hsl ?_
        by_cases hj0 : j = 0
        · left; exact List.eq_nil_of_length_eq_zero (by rw [hLj.out, hj0])
        · right
          have hne : l' ≠ [] := by
            intro h0; have := hij.out; rw [h0] at hi; simp at hi; omega
          have hlen : l'.length = sz D (val D l') := by unfold sz; rw [← Hl.out]
          have hpos : 0 < val D l' := Nat.pos_of_ne_zero fun e0 => by
            have := Hl.out; rw [e0] at this; exact hne this
          have hp := pow_sz_le D2 hpos
          rw [← hlen] at hp
          rw [e, hLj.out]
          refine Nat.le_trans ?_ hp
          rw [show W ^ (j - 1) = D ^ (4 * (j - 1)) by rw [Nat.pow_mul]; rfl]
          exact Nat.pow_le_pow_right (by decide) (by have := hij.out; omega)
      clear a4 hij hv Hl
      go_wp2
      go_ret
      exact ⟨_, rfl, by rw [← hv'.out]; exact hown.at, hbel⟩
end Go.Proofs.YtippcalhcnjghaaDoor
