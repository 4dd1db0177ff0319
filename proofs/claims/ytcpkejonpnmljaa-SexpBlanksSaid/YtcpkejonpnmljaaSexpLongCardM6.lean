/- Texts put together: Own, SxLong. -/
import Derived.Test.YtcpkejonpnmljaaSexpLongCardM5
import Derived.Laws.AppendOwnNone
/- Slices of numbers that a call has made itself: what append and make do with them. -/
namespace Go.Proofs.Ytcpkejonpnmljaa
open Go.RowKit Big

/-- t is the type of slices of e, the integers of kind k, of so many bytes -/
structure Elem (P : Program) (t e : TypeId) (k : IntKind) (size : Nat) : Prop where
  und : P.underlying t = some (.slice e)
  row : ∃ i, P.info? e = some i ∧ i.zero = some (.int k 0) ∧ i.size = 1 ∧ i.bytes = size
def ints (k : IntKind) (l : List Nat) : List Value := l.map fun x => Value.int k (x : Nat)
/-- v holds the numbers l in a row of the call's own, from block base on -/
def Own (w : World) (base : Nat) (e : TypeId) (k : IntKind) (v : Value) (l : List Nat) : Prop := w.ownsRow base e 1 v l.length (ints k l)

theorem ints_length (k : IntKind) (l : List Nat) : (ints k l).length = l.length := by simp [ints]
theorem ints_append (k : IntKind) (l m : List Nat) : ints k (l ++ m) = ints k l ++ ints k m := by simp [ints]
theorem Own.nil (w : World) (base : Nat) (e : TypeId) (k : IntKind) : Own w base e k (.slice none 0 0) [] := World.ownsRow_nil w base e 1
theorem Own.at {w : World} {base : Nat} {e : TypeId} {k : IntKind} {v : Value} {l : List Nat} (h : Own w base e k v l) : At w k v l := by
  have h' := h
  unfold Own at h'
  rcases h'.2 with ⟨rfl, h0⟩ | ⟨g, cap, cur, rfl, _, hg, hn, hm, _, _⟩
  · obtain rfl := List.eq_nil_of_length_eq_zero h0
    exact At.nil w k
  · refine ⟨_, cap, rfl, hn, hm, fun h => (by cases h), fun _ => ⟨g, 0, rfl, (Array.getElem?_eq_some_iff.1 hg).1, fun i hi => ?_⟩⟩
    have := World.ownsRow.cellAt h' i (by omega)
    rw [Nat.zero_add, this]
    simp [ints, hi]
theorem Own.kept {w w' : World} {base : Nat} {e : TypeId} {k : IntKind} {v : Value} {l : List Nat} (h : Own w base e k v l) (hb : Below w.heap.size w w') : Own w' base e k v l := by
  refine ⟨h.1, ?_⟩
  rcases h.2 with hn | ⟨g, cap, cur, rfl, h1, hg, r⟩
  · exact Or.inl hn
  · exact Or.inr ⟨g, cap, cur, rfl, h1, by rw [hb.block g (Array.getElem?_eq_some_iff.1 hg).1]; exact hg, r⟩
theorem Own.alloc {w : World} {base : Nat} {e : TypeId} {k : IntKind} {v : Value} {l : List Nat} (h : Own w base e k v l) (o : Obj) : Own (w.alloc o) base e k v l := h.kept (below1 w o)
theorem Own.mono {w : World} {base base' : Nat} {e : TypeId} {k : IntKind} {v : Value} {l : List Nat} (h : Own w base e k v l) (hb : base' ≤ base) : Own w base' e k v l := by
  refine ⟨h.1, ?_⟩
  rcases h.2 with hn | ⟨g, cap, cur, rfl, h1, r⟩
  · exact Or.inl hn
  · exact Or.inr ⟨g, cap, cur, rfl, Nat.le_trans hb h1, r⟩
/-- a row that is written is one of the call's own -/
theorem Own.row {w : World} {base : Nat} {e : TypeId} {k : IntKind} {v : Value} {l : List Nat} (h : Own w base e k v l) : ∀ g, v.ownBlock = some g → base ≤ g := fun g hg => (World.ownsRow.lt h g hg).1
/-- a cut at the end -/
theorem Own.take {w : World} {base : Nat} {e : TypeId} {k : IntKind} {p : Option Addr} {n cap : Nat} {l : List Nat} (h : Own w base e k (.slice p n cap) l) (m : Nat) (hm : m ≤ l.length) : Own w base e k (.slice p m cap) (l.take m) := by
  have hl : (l.take m).length = m := by simp [Nat.min_eq_left hm]
  unfold Own at h ⊢
  rw [hl]
  refine ⟨by simp [ints_length, hl], ?_⟩
  rcases h.2 with ⟨h1, h2⟩ | ⟨g, c, cur, h1, h2, h3, h4, h5, h6, h7⟩
  · cases h1; exact Or.inl ⟨by rw [show m = 0 by omega], by omega⟩
  · cases h1
    refine Or.inr ⟨g, cap, cur, rfl, h2, h3, by omega, h5, h6, ?_⟩
    have : (ints k l).take m = ints k (l.take m) := by simp [ints, List.map_take]
    rw [← this, ← h7, List.take_take]
    congr 1; omega

/-- what a call answers: a slice of numbers l in memory of its own -/
def ROwn (e : TypeId) (k : IntKind) (l : List Nat) (w : World) (en : Ending) (w' : World) : Prop := ∃ v', en = .returned v' ∧ Own w' w.heap.size e k v' l ∧ Below w.heap.size w w'

section
variable {P : Program} {w : World} {ops : Array Oper} {rest : List Oper} {o : Oper} {a : Act} {Q : Exit → Act → World → Prop}

/-- 'append(v, x...)': v the call's own, x whatever slice of numbers -/
theorem wpList_append_at (hgd : o.guard = none) (s x : Operand) (t : TypeId)
    (ho : o.op = .call { callee := .builtin .append, args := #[s, x], argTypes := #[t, t] })
    {e : TypeId} {k : IntKind} {size : Nat} (E : Elem P t e k size) (base : Nat) (v : Value) (l : List Nat) (hs : a.eval s = v) (hown : Own w base e k v l)
    (vx : Value) (m : List Nat) (hx : a.eval x = vx) (hat : At w k vx m)
    (hlen : l.length + m.length ≤ maxLen) (hbytes : (l.length + m.length) * size ≤ 140737488355328) (hbase : base ≤ w.heap.size)
    (h : ∀ v' w', Own w' base e k v' (l ++ m) → Below base w w' → w.heap.size ≤ w'.heap.size → wpList P ops Q rest (a.put o.dst v') w') : wpList P ops Q (o :: rest) a w := by
  obtain ⟨i, hi, hz, hsz, hby⟩ := E.row
  obtain ⟨p, cap, rfl, h1, h2, h3, h4⟩ := hat
  cases p with
  | none =>
    obtain rfl := h3 rfl
    obtain rfl : m = [] := List.eq_nil_of_length_eq_zero (by omega)
    exact wpList_append_own_none hgd s x t ho base e i 1 E.und hi v l.length (ints k l) hs hown hx (h _ _ (by rw [List.append_nil]; exact hown) (Below.refl _ _) (Nat.le_refl _))
  | some ad =>
    refine wpList_append_own w hgd s x t ho base e i (.int k 0) 1 size E.und hi hz hsz hby rfl (by decide) v l.length (ints k l) hs hown ad m.length cap (ints k m) hx (by simp [ints_length]) ?_ ?_ hlen hbytes hbase ?_
    · intro j u hj
      by_cases hjm : j < m.length
      · obtain ⟨b, off, he, hb, hc⟩ := h4 (by omega)
        cases he
        rw [Go.WideShapes.add_plain, hc j hjm]
        simpa [ints, hjm] using hj
      · rw [List.getElem?_eq_none (by rw [ints_length]; omega)] at hj; cases hj
    · intro u hu
      obtain ⟨n, _, rfl⟩ := List.mem_map.1 hu
      rfl
    · intro v' w' h5 h6 _
      refine h v' w' ?_ ((Below.refl _ _).grown h6 hbase hown.row) h6.size
      unfold Own
      rw [List.length_append, ints_append]; exact h5

/-- 'make([]T, 0, n)' -/
theorem wpList_make_at (hg : o.guard = none) (l c : Operand) (t : TypeId) (hop : o.op = Op.makeSlice t l c)
    {e : TypeId} {k : IntKind} {size : Nat} (E : Elem P t e k size) (base : Nat)
    (kl kc : IntKind) (C : Int) (n : Nat) (hl : a.eval l = .int kl 0) (hc : a.eval c = .int kc C) (hC : C = (n : Int)) (b2 : size * n ≤ 281474976710656) (b3 : n ≤ maxLen) (b4 : base ≤ w.heap.size)
    (hK : ∀ v w', Own w' base e k v [] → Below base w w' → w.heap.size ≤ w'.heap.size → v = (.slice (some ⟨w.heap.size, 0, none⟩) 0 n) → wpList P ops Q rest (a.put o.dst v) w') :
    wpList P ops Q (o :: rest) a w := by
  obtain ⟨i, hi, hz, hsz, hby⟩ := E.row
  subst hby
  exact wpList_make_own w hg l c t hop base e i (.int k 0) 1 E.und hi hz hsz kl kc C n hl hc hC b2 b3 b4 fun w' h1 h2 => hK _ w' h1 ((Below.refl _ _).grown h2 b4 (fun _ h => by cases h)) h2.size rfl

/-- 'make([]T, n)' -/
theorem wpList_full_at (hg : o.guard = none) (l c : Operand) (t : TypeId) (hop : o.op = Op.makeSlice t l c)
    {e : TypeId} {k : IntKind} {size : Nat} (E : Elem P t e k size) (base : Nat)
    (kl kc : IntKind) (L C : Int) (n : Nat) (hl : a.eval l = .int kl L) (hc : a.eval c = .int kc C) (hL : L = (n : Int)) (hC : C = (n : Int)) (b2 : size * n ≤ 281474976710656) (b3 : n ≤ maxLen) (b4 : base ≤ w.heap.size)
    (hK : ∀ v w', Own w' base e k v (List.replicate n 0) → Below base w w' → w.heap.size ≤ w'.heap.size → v = (.slice (some ⟨w.heap.size, 0, none⟩) n n) → wpList P ops Q rest (a.put o.dst v) w') :
    wpList P ops Q (o :: rest) a w := by
  obtain ⟨i, hi, hz, hsz, hby⟩ := E.row
  subst hby
  refine wpList_make_full w hg l c t hop base e i (.int k 0) 1 E.und hi hz hsz kl kc L C n hl hc hL hC b2 b3 b4 fun w' h1 h2 => hK _ w' ?_ ((Below.refl _ _).grown h2 b4 (fun _ h => by cases h)) h2.size rfl
  unfold Own
  rw [List.length_replicate]
  have e1 : (madeCells (Value.int k 0).cells (n * 1)).toList = ints k (List.replicate n 0) := by
    rw [Nat.mul_one]
    show (madeCells #[Value.int k 0] n).toList = _
    rw [toList_madeCells_one]
    simp [ints]
  rw [← e1]; exact h1
end

end Go.Proofs.Ytcpkejonpnmljaa
/- elenchuslaw03.SexpLong. -/
namespace Go.Proofs.Ytcpkejonpnmljaa
open Go.RowKit

theorem elemBytes : Elem Try.prog 23 5 .u8 1 := ⟨Try.underlying23, info_parts (by kernel_rfl)⟩

theorem Own.cellB {w : World} {base : Nat} {e : TypeId} {k : IntKind} {g n cap : Nat} {l : List Nat} (h : Own w base e k (.slice (some ⟨g, 0, none⟩) n cap) l) (j : Nat) (hj : j < l.length) :
    w.cell? ⟨g, j, none⟩ = some (.int k (l[j] : Nat)) ∧ w.frozen? ⟨g, j, none⟩ = false := by
  have hn : n = l.length := by
    rcases h.2 with ⟨h1, _⟩ | ⟨g, cap, cur, hv, _⟩
    · cases h1
    · cases hv; rfl
  subst hn
  refine ⟨?_, World.ownsRow.frozenAt h j⟩
  rw [World.ownsRow.cellAt h j (by omega)]
  simp [ints, hj]
/-- a store into an owned row -/
theorem Own.setB {w : World} {base : Nat} {e : TypeId} {k : IntKind} {g n cap : Nat} {l : List Nat} (h : Own w base e k (.slice (some ⟨g, 0, none⟩) n cap) l) (j x : Nat) :
    Own (w.setCell ⟨g, j, none⟩ (.int k (x : Nat))) base e k (.slice (some ⟨g, 0, none⟩) n cap) (l.set j x) ∧ w.grownBy (w.setCell ⟨g, j, none⟩ (.int k (x : Nat))) (some g) := by
  have hn : n = l.length := by
    rcases h.2 with ⟨h1, _⟩ | ⟨g, cap, cur, hv, _⟩
    · cases h1
    · cases hv; rfl
  subst hn
  have hs := World.ownsRow.stored h j (.int k (x : Nat))
  refine ⟨?_, hs.2⟩
  unfold Own
  rw [List.length_set]
  have e1 : ints k (l.set j x) = (ints k l).set j (.int k (x : Nat)) := by simp [ints, List.map_set]
  rw [e1]; exact hs.1

set_option maxRecDepth 100000 in
set_option maxHeartbeats 3200000 in
theorem lawLong_any (c m : Nat) (hc : c < 256) (hm : m < 256) (w : World) : Calls Try.prog 3 #[.int .u8 (c : Nat), .int .u8 (m : Nat)] w (RBool true w) := by
  have Hf := hid (fixed3_any w)
  have h1 : ((m : Int) + 65537) = ((m + 65537 : Nat) : Int) := by omega
  go_enter Try.func3, Try.ntmps3
  go_wp2_with fail
  refine Hf.out.mono ?_
  rintro e w1 ⟨rfl, hb1⟩
  go_wp2_with (first
    | (at_make; refine wpList_full_at rfl _ _ 23 rfl elemBytes w1.heap.size _ _ _ _ (65537 + m) rfl rfl (by first | rfl | omega | (simp; done)) (by first | rfl | omega | (simp; done)) (by omega) (by simp [maxLen]; omega) (Nat.le_refl _) ?_; intro vo w2 ho hb2 hs2 hvo; subst hvo))
  obtain ⟨n, hn⟩ : ∃ n, n = 65537 + m := ⟨_, rfl⟩
  have hni : (65537 : Int) + (m : Int) = (n : Int) := by omega
  rw [← hn] at ho ⊢
  rw [hni]
  have Ho := hid ho; have HB2 := hid (hb1.trans (hb2.mono hb1.size)); have Hn := hid hn
  have hz1 := hb1.size
  clear ho hb2 hn hni hb1
  go_loopw [18] (fun i wr => ∃ (k : Nat) (O : List Nat), k ≤ n ∧ i = .int .i64 (k : Nat) ∧ Own wr w1.heap.size 5 .u8 (.slice (some ⟨w1.heap.size, 0, none⟩) n n) O ∧ Hid (O.length = n) ∧ Hid (∀ x ∈ O, x < 256) ∧ Hid (Below w.heap.size w wr)) (fun i _ => n - (RowKit.intOf i).toNat)
  case atStart => exact ⟨0, _, Nat.zero_le _, rfl, Ho.out, by simp [Hid], by unfold Hid; intro x hx; simp at hx; omega, HB2⟩
  case round =>
    obtain ⟨k, O, hk, rfl, hown, hO, hs, hbel⟩ := hrel
    by_cases hlt : k < n
    · have hlt' : (k : Int) < (n : Int) := by omega
      have hnb : (n : Int) ≤ 70000 := by have := Hn.out; omega
      obtain ⟨c0, f0⟩ := hown.cellB k (by rw [hO.out]; exact hlt)
      have hset := hown.setB k c
      have Hs := hid hset.1
      have Hb := hid (hbel.out.setCell (p := ⟨w1.heap.size, k, none⟩) hz1 (.int .u8 (c : Nat)))
      have Hsm : Hid (∀ x ∈ O.set k c, x < 256) := by
        intro x hx
        rcases List.mem_or_eq_of_mem_set hx with h | h
        · exact hs.out x h
        · omega
      clear hset hown
      go_wp2_with fail
      go_roundw
      case rel => exact ⟨k + 1, O.set k c, by omega, by go_num, Hs.out, by simp [Hid, hO.out], Hsm, Hb⟩
      case measure => (simp [RowKit.intOf] <;> omega)
    · have hke : k = n := by omega
      subst hke
      have hcv : (convert 23 9 (.slice (some ⟨w1.heap.size, 0, none⟩) k k)).run Try.prog wr = .ok (.string ⟨(O.map Nat.toUInt8).toArray⟩) wr := by
        have := run_convert_bytes_back (P := Try.prog) wr 23 9 5 ⟨w1.heap.size, 0, none⟩ k (O.map Nat.toUInt8) Try.underlying23 (by kernel_rfl) (by kernel_rfl) (fun j hj => by
          have hj' : j < O.length := by simpa using hj
          have := (hown.cellB j hj').1
          have e : (⟨w1.heap.size, 0, none⟩ : Addr).add j = ⟨w1.heap.size, j, none⟩ := by rw [Go.WideShapes.add_plain, Nat.zero_add]
          rw [e, this]
          have h256 := hs.out O[j] (List.getElem_mem hj')
          simp
          omega)
        rwa [List.length_map, hO.out] at this
      have hrd := Read_long ⟨(O.map Nat.toUInt8).toArray⟩ wr (by show 65536 < (O.map Nat.toUInt8).toArray.size; have := hO.out; have := Hn.out; simp; omega)
      generalize (⟨(O.map Nat.toUInt8).toArray⟩ : ByteArray) = T at *
      have Hrd := hid hrd; have Hb := hid hbel.out
      clear hrd hown
      go_wp2_with fail
      refine Hrd.out.mono ?_
      rintro e w' ⟨rfl, rfl⟩
      go_wp2_with fail
      go_ret
      exact ⟨rfl, Hb.out⟩
end Go.Proofs.Ytcpkejonpnmljaa
