/- Texts put together: SxRead, SxWr, SxWModel, SxWPut, SxWSigns, SxWList, SxPure, SxFixed. -/
import Derived.Test.YtcpkejonpnmljaaSexpLongCardM4
import Derived.Lib.Builder
import Derived.Lib.AppendStr
import Derived.Lib.UnsafeStr
import Derived.Outline
import Derived.OneCell
import Derived.Deep.DeepCutAuto
import Derived.Deep.QuietTactic
import Derived.BigQuiet
import Derived.Deep.LoopGhost
/- sexp.Read. -/
namespace Go.Proofs.Ytcpkejonpnmljaa
open Go.RowKit

set_option maxRecDepth 100000 in
set_option maxHeartbeats 1600000 in
theorem Read_long (s : ByteArray) (w : World) (hs : 65536 < s.size) :
    Calls Try.prog 10 #[.string s] w fun e w' => e = .returned (.tuple #[.slice none 0 0, .int .i64 0, .int .i64 11]) ∧ w = w' := by
  have h1 : (65536 : Int) < (s.size : Int) := by omega
  go_enter Try.func10, Try.ntmps10
  go_wp2
  go_ret3
  exact ⟨rfl, rfl⟩

set_option maxRecDepth 100000 in
set_option maxHeartbeats 1600000 in
theorem Read_any (s : ByteArray) (w : World) (hs : s.size ≤ 65536) : Calls Try.prog 10 #[.string s] w (RAll w.heap.size w (sxRun s (s.size + 1) 0 [] (0, []))) := by
  have h1 : ¬ (65536 : Int) < (s.size : Int) := by omega
  have hmk : ∀ w, (Instr.makeSlice 43 (.int .i64 1) (.int .i64 1)).run Try.prog w = .ok (.slice (some ⟨w.heap.size, 0, none⟩) 1 1) (w.alloc (.cells #[.int .i64 0, .slice none 0 0] 63)) := fun _ => by kernel_rfl
  obtain ⟨R, hR⟩ : ∃ R, R = sxRun s (s.size + 1) 0 [] (0, []) := ⟨_, rfl⟩
  rw [← hR]
  have HR := hid hR
  clear hR
  have hra : ∀ W, Below w.heap.size w W → W.heap[w.heap.size]? = some (.cells #[.int .i64 0, .slice none 0 0] 63 (0, 0)) →
      W.heap[w.heap.size + 1]? = some (.cells #[.string s, .int .i64 0, .slice (some ⟨w.heap.size, 0, none⟩) 1 1] 45 (0, 0)) →
      Calls Try.prog 15 #[.pointer (some ⟨w.heap.size + 1, 0, none⟩)] W (RAll w.heap.size W R) := fun W hb h2 h3 => by
    rw [HR.out]
    refine readAll_any w.heap.size (w.heap.size + 1) w.heap.size 1 s ⟨0, .slice none 0 0, []⟩ W ⟨?_, ?_, by omega, ?_, ?_⟩ rfl hs hb.size
    · simpa using h3
    · refine ⟨rfl, .inr ⟨w.heap.size, 1, _, rfl, Nat.le_refl _, h2, Nat.le_refl _, by unfold maxLen; omega, rfl, rfl⟩⟩
    · intro y hy
      obtain rfl : y = _ := by simpa using hy
      exact ⟨[], rfl, World.ownsRow_nil .., fun i hi => absurd hi (by simp)⟩
    · exact List.pairwise_singleton _ _
  have Hra := hid hra
  clear hra
  go_enter Try.func10, Try.ntmps10
  go_wp2_with fail
  generalize hW : World.alloc (World.alloc w _) _ = W1
  have hb1 : Below w.heap.size w W1 := by rw [← hW]; exact (below1 _ _).alloc (by simp) _
  have h2 : W1.heap[w.heap.size]? = some (.cells #[.int .i64 0, .slice none 0 0] 63 (0, 0)) := by rw [← hW, heap_alloc_old _ _ (by simp)]; exact heap_alloc_new w _
  have h3 : W1.heap[w.heap.size + 1]? = some (.cells #[.string s, .int .i64 0, .slice (some ⟨w.heap.size, 0, none⟩) 1 1] 45 (0, 0)) := by
    rw [← hW]
    have := heap_alloc_new (w.alloc (.cells #[.int .i64 0, .slice none 0 0] 63)) (.cells #[.string s, .int .i64 0, .slice (some ⟨w.heap.size, 0, none⟩) 1 1] 45)
    rwa [show (w.alloc (.cells #[.int .i64 0, .slice none 0 0] 63)).heap.size = w.heap.size + 1 by simp] at this
  have hc := Hra.out W1 hb1 h2 h3
  have Hc := hid hc
  have HB1 := hid hb1
  clear hW h2 h3 hc hb1 hmk
  refine Hc.out.mono ?_
  intro e w2 hr
  unfold RAll at hr
  rcases R with ⟨p, er⟩ | ⟨f, l⟩
  · obtain ⟨rfl, hb⟩ := hr
    go_wp2_with fail
    go_ret3
    exact ⟨rfl, HB1.out.trans hb⟩
  · by_cases hf : f = []
    · simp only [if_pos hf] at hr
      obtain ⟨v, rfl, hrow, hb⟩ := hr
      have Hrow := hid hrow; have Hb := hid hb; have Hf := hid hf
      clear hrow hb hf
      go_wp2_with fail
      go_ret3
      show if _ then _ else _
      rw [if_pos Hf.out]
      exact ⟨v, rfl, Hrow.out, HB1.out.trans Hb.out⟩
    · simp only [if_neg hf] at hr
      obtain ⟨rfl, hb⟩ := hr
      have Hb := hid hb; have Hf := hid hf
      clear hb hf
      go_wp2_with fail
      go_ret3
      show if _ then _ else _
      rw [if_neg Hf.out]
      exact ⟨rfl, HB1.out.trans Hb.out⟩
end Go.Proofs.Ytcpkejonpnmljaa
/- The writer of expressions in memory; strings.Builder's methods over the builder at its head. -/
namespace Go.Proofs.Ytcpkejonpnmljaa
open Go.RowKit Go.Lib

theorem sizeBuilder : (Try.prog.info? 50).map (·.size) = some 2 := by kernel_rfl
theorem liesWriter : liesAt Try.prog Try.prog.depth 52 (5 / Try.prog.cellsOf 52) 0 50 1 = true := by kernel_rfl
theorem infoByteW : (Try.prog.info? 5).map (fun i => (i.zero, i.size, i.bytes)) = some (some (.int .u8 0), 1, 1) := by kernel_rfl

/-- a writer in block b: its builder holds the bytes bs; r, l, g: its other cells; p: what the builder's 'addr' holds -/
def WrAt (B b : Nat) (p : Value) (bs : List Value) (r l g : Value) (w : World) : Prop :=
  B ≤ b ∧ ∃ v, w.heap[b]? = some (.cells #[p, v, r, l, g] 52 (0, 0)) ∧ w.ownsRow B 5 1 v bs.length bs ∧ v.ownBlock ≠ some b
def IsWr (B b : Nat) (bs : List Value) (r l g : Value) (w : World) : Prop := WrAt B b (.pointer none) bs r l g w ∨ WrAt B b (.pointer (some ⟨b, 0, none⟩)) bs r l g w
section
variable {B b : Nat} {p : Value} {bs : List Value} {r l g : Value} {w w' : World}
theorem WrAt.lt (h : WrAt B b p bs r l g w) : b < w.heap.size := by
  obtain ⟨_, v, hb, _⟩ := h
  exact (Array.getElem?_eq_some_iff.1 hb).1
theorem WrAt.cell0 (h : WrAt B b p bs r l g w) : w.cell? ⟨b, 0, none⟩ = some p := by
  obtain ⟨_, v, hb, _⟩ := h; rw [cell_of_row w b 0 _ _ (0, 0) hb]; rfl
theorem WrAt.cell2 (h : WrAt B b p bs r l g w) : w.cell? ⟨b, 2, none⟩ = some r := by
  obtain ⟨_, v, hb, _⟩ := h; rw [cell_of_row w b 2 _ _ (0, 0) hb]; rfl
theorem WrAt.cell3 (h : WrAt B b p bs r l g w) : w.cell? ⟨b, 3, none⟩ = some l := by
  obtain ⟨_, v, hb, _⟩ := h; rw [cell_of_row w b 3 _ _ (0, 0) hb]; rfl
theorem WrAt.cell4 (h : WrAt B b p bs r l g w) : w.cell? ⟨b, 4, none⟩ = some g := by
  obtain ⟨_, v, hb, _⟩ := h; rw [cell_of_row w b 4 _ _ (0, 0) hb]; rfl
theorem WrAt.frozen (h : WrAt B b p bs r l g w) (j : Nat) : w.frozen? ⟨b, j, none⟩ = false := by
  obtain ⟨_, v, hb, _⟩ := h; exact frozen_of_row w b j _ _ hb
theorem WrAt.shape (h : WrAt B b p bs r l g w) : w.shape? b = some (52, 5) := by
  obtain ⟨_, v, hb, _⟩ := h; simp [World.shape?, hb]
theorem WrAt.below (h : WrAt B b p bs r l g w) (hb : Below w.heap.size w w') : WrAt B b p bs r l g w' := by
  obtain ⟨hB, v, hbk, hown, hne⟩ := h
  refine ⟨hB, v, (hb.block b (lt_of_heap hbk)).trans hbk, own_move hown fun k hk => ?_, hne⟩
  obtain ⟨-, cs, hc⟩ := own_type hown hk
  exact hb.block k (lt_of_heap hc)
theorem WrAt.far {v : Value} (hown : w.ownsRow B 5 1 v bs.length bs) (hne : v.ownBlock ≠ some b) (j : Nat) (u : Value) : (w.setCell ⟨b, j, none⟩ u).ownsRow B 5 1 v bs.length bs :=
  own_move hown fun k hk => heap_setCell_other w ⟨b, j, none⟩ k u (by rintro rfl; exact hne hk)
theorem WrAt.set0 (h : WrAt B b p bs r l g w) (u : Value) : WrAt B b u bs r l g (w.setCell ⟨b, 0, none⟩ u) := by
  obtain ⟨hB, v, hbk, hown, hne⟩ := h
  exact ⟨hB, v, by have := heap_setCell_same w b 0 _ _ u hbk; simpa using this, WrAt.far hown hne 0 u, hne⟩
theorem WrAt.set2 (h : WrAt B b p bs r l g w) (u : Value) : WrAt B b p bs u l g (w.setCell ⟨b, 2, none⟩ u) := by
  obtain ⟨hB, v, hbk, hown, hne⟩ := h
  exact ⟨hB, v, by have := heap_setCell_same w b 2 _ _ u hbk; simpa using this, WrAt.far hown hne 2 u, hne⟩
theorem WrAt.set3 (h : WrAt B b p bs r l g w) (u : Value) : WrAt B b p bs r u g (w.setCell ⟨b, 3, none⟩ u) := by
  obtain ⟨hB, v, hbk, hown, hne⟩ := h
  exact ⟨hB, v, by have := heap_setCell_same w b 3 _ _ u hbk; simpa using this, WrAt.far hown hne 3 u, hne⟩
theorem WrAt.set4 (h : WrAt B b p bs r l g w) (u : Value) : WrAt B b p bs r l u (w.setCell ⟨b, 4, none⟩ u) := by
  obtain ⟨hB, v, hbk, hown, hne⟩ := h
  exact ⟨hB, v, by have := heap_setCell_same w b 4 _ _ u hbk; simpa using this, WrAt.far hown hne 4 u, hne⟩
theorem WrAt.put {v v' : Value} {bs' : List Value} (hB : B ≤ b) (hbk : w.heap[b]? = some (.cells #[p, v, r, l, g] 52 (0, 0))) (hown : w.ownsRow B 5 1 v' bs'.length bs') : WrAt B b p bs' r l g (w.setCell ⟨b, 1, none⟩ v') := by
  have hne : v'.ownBlock ≠ some b := ownBlock_ne hown hbk (by decide)
  exact ⟨hB, v', by have := heap_setCell_same w b 1 _ _ v' hbk; simpa using this, WrAt.far hown hne 1 v', hne⟩
theorem IsWr.at (h : IsWr B b bs r l g w) : ∃ p, WrAt B b p bs r l g w := by rcases h with h | h <;> exact ⟨_, h⟩
theorem IsWr.mapAt {bs' : List Value} {r' l' g' : Value} {w' : World} (h : IsWr B b bs r l g w) (f : ∀ p, WrAt B b p bs r l g w → WrAt B b p bs' r' l' g' w') : IsWr B b bs' r' l' g' w' := by
  rcases h with h | h
  · exact .inl (f _ h)
  · exact .inr (f _ h)
theorem IsWr.cell2 (h : IsWr B b bs r l g w) : w.cell? ⟨b, 2, none⟩ = some r := by rcases h with h | h <;> exact h.cell2
theorem IsWr.cell3 (h : IsWr B b bs r l g w) : w.cell? ⟨b, 3, none⟩ = some l := by rcases h with h | h <;> exact h.cell3
theorem IsWr.cell4 (h : IsWr B b bs r l g w) : w.cell? ⟨b, 4, none⟩ = some g := by rcases h with h | h <;> exact h.cell4
theorem IsWr.frozen (h : IsWr B b bs r l g w) (j : Nat) : w.frozen? ⟨b, j, none⟩ = false := by rcases h with h | h <;> exact h.frozen j
theorem IsWr.set2 (h : IsWr B b bs r l g w) (u : Value) : IsWr B b bs u l g (w.setCell ⟨b, 2, none⟩ u) := h.mapAt fun _ k => k.set2 u
theorem IsWr.set3 (h : IsWr B b bs r l g w) (u : Value) : IsWr B b bs r u g (w.setCell ⟨b, 3, none⟩ u) := h.mapAt fun _ k => k.set3 u
theorem IsWr.set4 (h : IsWr B b bs r l g w) (u : Value) : IsWr B b bs r l u (w.setCell ⟨b, 4, none⟩ u) := h.mapAt fun _ k => k.set4 u
theorem IsWr.low (h : IsWr B b bs r l g w) : B ≤ b := by obtain ⟨p, h⟩ := h.at; exact h.1
end

/-- blocks that are neither a writer's nor bytes stay as they are -/
def KeptW (w w' : World) : Prop := ∀ (b : Nat) (cs : Array Value) (t : TypeId) (fr : Nat × Nat), w.heap[b]? = some (Obj.cells cs t fr) → t ≠ 52 → t ≠ 5 → w'.heap[b]? = w.heap[b]?
structure FrW (B : Nat) (w w' : World) : Prop where
  bel : Below B w w'
  kept : KeptW w w'
theorem KeptW.trans {w w' w'' : World} (h : KeptW w w') (h' : KeptW w' w'') : KeptW w w'' := fun b cs t fr hb h1 h2 => by
  have e := h b cs t fr hb h1 h2
  exact (h' b cs t fr (e.trans hb) h1 h2).trans e
theorem FrW.trans {B : Nat} {w w' w'' : World} (h : FrW B w w') (h' : FrW B w' w'') : FrW B w w'' := ⟨h.bel.trans h'.bel, h.kept.trans h'.kept⟩
theorem FrW.of_below {B : Nat} {w w' : World} (hB : B ≤ w.heap.size) (h : Below w.heap.size w w') : FrW B w w' := ⟨h.mono hB, fun b _ _ _ hb _ _ => h.block b (lt_of_heap hb)⟩
theorem FrW.refl (B : Nat) (w : World) : FrW B w w := ⟨Below.refl _ _, fun _ _ _ _ _ _ _ => rfl⟩
theorem FrW.setB {B b : Nat} {w0 w : World} {cs : Array Value} {fr : Nat × Nat} (h : FrW B w0 w) (hB : B ≤ b) (hb : w.heap[b]? = some (.cells cs 52 fr)) (j : Nat) (u : Value) : FrW B w0 (w.setCell ⟨b, j, none⟩ u) :=
  h.trans ⟨(Below.refl B w).setCell (p := ⟨b, j, none⟩) hB u, fun k cs' t fr' hk h1 _ => heap_setCell_other w ⟨b, j, none⟩ k u (by
    rintro rfl
    rw [hk] at hb
    injection hb with hb
    injection hb with _ h4
    exact h1 h4)⟩
theorem FrW.setWr {B b : Nat} {w0 w : World} {bs : List Value} {r l g : Value} (h : FrW B w0 w) (hw : IsWr B b bs r l g w) (j : Nat) (u : Value) : FrW B w0 (w.setCell ⟨b, j, none⟩ u) := by
  obtain ⟨p, hB, v, hb, -⟩ := hw.at
  exact h.setB hB hb j u
theorem FrW.grownW {B n : Nat} {w1 wx w2 : World} {v : Value} {xs : List Value} (hown : w1.ownsRow B 5 1 v n xs) (hx : Below w1.heap.size w1 wx) (hB : B ≤ w1.heap.size) (hg : wx.grownBy w2 v.ownBlock) : FrW B w1 w2 :=
  ⟨(hx.mono hB).grown hg (Nat.le_trans hB hx.size) (fun k hk => (hown.lt k hk).1), fun k cs t fr hk _ h2 => by
    have hne : v.ownBlock ≠ some k := fun e => by
      obtain ⟨-, cs', hc⟩ := own_type hown e
      rw [hk] at hc
      injection hc with hc
      injection hc with _ h4
      exact h2 h4
    rw [hg.block k (Nat.lt_of_lt_of_le (lt_of_heap hk) hx.size) (fun e => hne e.symm), hx.block k (lt_of_heap hk)]⟩

set_option maxRecDepth 100000 in
set_option maxHeartbeats 1000000 in
theorem copyCheckW (B b : Nat) (bs : List Value) (r l g : Value) (w : World) (h : IsWr B b bs r l g w) :
    Calls Try.prog 56 #[.pointer (some ⟨b, 0, none⟩)] w fun e w' => e = .returned (.tuple #[]) ∧ WrAt B b (.pointer (some ⟨b, 0, none⟩)) bs r l g w' ∧ FrW B w w' := by
  obtain ⟨j, hj, hjs⟩ := Option.map_eq_some_iff.1 sizeBuilder
  rcases h with h | h
  · have c0 := h.cell0
    have hsh := h.shape
    have f0 := h.frozen 0
    have H := hid h
    clear h
    go_enter Try.func56, Try.ntmps56
    go_wp2
    rw [run_to_unsafe w ⟨b, 0, none⟩ Try.underlying48 Try.underlying82 hj (by rw [hjs]; decide) hsh (Nat.zero_lt_succ 4)]
    simp only [Result.andThen]
    rw [Oper.upon_value]
    go_wp2
    rw [run_callFunc_extern Try.func59 (by kernel_rfl) (by kernel_rfl) (by kernel_rfl) (e := Extern.AbiNoEscape.same) (by kernel_rfl), run_noEscape]
    simp only [Result.andThen]
    rw [Oper.upon_value]
    go_wp2
    rw [run_from_unsafe w ⟨b, 0, none⟩ Try.underlying82 Try.underlying48 hj hsh liesWriter]
    simp only [Result.andThen]
    rw [Oper.upon_value]
    go_wp2
    go_end0
    exact ⟨rfl, H.out.set0 _, (FrW.refl B w).setWr (.inl H.out) 0 _⟩
  · have c0 := h.cell0
    have H := hid h
    clear h
    go_enter Try.func56, Try.ntmps56
    go_wp2
    rw [run_neq_ptr_same w _ Try.underlying48 hj]
    go_wp2
    go_end0
    exact ⟨rfl, H.out, FrW.refl B _⟩

def RBuiltW (B b : Nat) (v : Value) (bs : List Value) (r l g : Value) (w : World) (e : Ending) (w' : World) : Prop := e = .returned v ∧ IsWr B b bs r l g w' ∧ FrW B w w'

set_option maxRecDepth 100000 in
set_option maxHeartbeats 1000000 in
theorem WriteByteW (B b : Nat) (bs : List Value) (r l g : Value) (c : Int) (w : World) (h : IsWr B b bs r l g w) (hlen : bs.length + 1 ≤ 140737488355328) (hBw : B ≤ w.heap.size) :
    Calls Try.prog 47 #[.pointer (some ⟨b, 0, none⟩), .int .u8 c] w (RBuiltW B b .nilIface (bs ++ [.int .u8 c]) r l g w) := by
  obtain ⟨i0, hi, hz0, hz1, hz2⟩ := info_parts infoByteW
  have H := hid h
  clear h
  go_enter Try.func47, Try.ntmps47
  go_wp2_with fail
  refine (copyCheckW B b bs r l g _ H.out).mono ?_
  rintro e w1 ⟨rfl, h1, hb1⟩
  have hlt := h1.lt
  obtain ⟨hB, v, hbk, hown, hne⟩ := h1
  have c0 : w1.cell? ⟨b, 0, none⟩ = some (.pointer (some ⟨b, 0, none⟩)) := by rw [cell_of_row w1 b 0 _ _ (0, 0) hbk]; rfl
  have c1 : w1.cell? ⟨b, 1, none⟩ = some v := by rw [cell_of_row w1 b 1 _ _ (0, 0) hbk]; rfl
  have z1 : B ≤ w1.heap.size := Nat.le_trans hBw hb1.bel.size
  go_wp2_with (at_builtin; refine wpList_append_own _ rfl _ _ 23 rfl B 5 i0 (.int .u8 0) 1 1 Try.underlying23 hi hz0 hz1 hz2 rfl (by decide) _ _ _ rfl (hown.alloc _) ⟨w1.heap.size, 0, none⟩ 1 1 [.int .u8 c] rfl rfl ?c1 ?c2 ?c3 ?c4 ?c5 ?_)
  case c1 =>
    intro j u hj
    match j, hj with
    | 0, hj => simp at hj; subst hj; simp [Addr.add]
  case c2 => intro u hu; simp at hu; subst hu; rfl
  case c3 => unfold maxLen; omega
  case c4 => omega
  case c5 => simp; omega
  intro v' w2 hown' hgrow _
  have hb2 : w2.heap[b]? = some (.cells #[.pointer (some ⟨b, 0, none⟩), v, r, l, g] 52 (0, 0)) := by
    rw [hgrow.block b (by simp; omega) (fun e => hne e.symm), heap_alloc_old w1 _ hlt]
    exact hbk
  have d0 : w2.cell? ⟨b, 0, none⟩ = some (.pointer (some ⟨b, 0, none⟩)) := by rw [cell_of_row w2 b 0 _ _ (0, 0) hb2]; rfl
  have d1 : w2.cell? ⟨b, 1, none⟩ = some v := by rw [cell_of_row w2 b 1 _ _ (0, 0) hb2]; rfl
  have f1 : w2.frozen? ⟨b, 1, none⟩ = false := frozen_of_row w2 b 1 _ _ hb2
  obtain ⟨g5, cap, rfl⟩ : ∃ g5 cap, v' = .slice (some ⟨g5, 0, none⟩) (bs.length + 1) cap := by
    rcases hown'.2 with ⟨_, h0⟩ | ⟨g5, cap, cur, hv, _⟩
    · omega
    · exact ⟨g5, cap, hv⟩
  go_wp2
  go_ret
  refine ⟨rfl, Or.inr ?_, ?_⟩
  · exact WrAt.put hB hb2 (bs' := bs ++ [.int .u8 c]) (by simpa using hown')
  · exact (hb1.trans (FrW.grownW hown (below1 _ _) z1 hgrow)).setB hB hb2 1 _

set_option maxRecDepth 100000 in
set_option maxHeartbeats 1000000 in
theorem WriteStringW (B b : Nat) (bs : List Value) (r l g : Value) (s : ByteArray) (w : World) (h : IsWr B b bs r l g w) (hlen : bs.length + s.size ≤ 140737488355328) (hBw : B ≤ w.heap.size) :
    Calls Try.prog 48 #[.pointer (some ⟨b, 0, none⟩), .string s] w (RBuiltW B b (.tuple #[.int .i64 s.size, .nilIface]) (bs ++ strCells s) r l g w) := by
  obtain ⟨i0, hi, hz0, hz1, hz2⟩ := info_parts infoByteW
  have H := hid h
  clear h
  go_enter Try.func48, Try.ntmps48
  go_wp2_with fail
  refine (copyCheckW B b bs r l g _ H.out).mono ?_
  rintro e w1 ⟨rfl, h1, hb1⟩
  have hlt := h1.lt
  obtain ⟨hB, v, hbk, hown, hne⟩ := h1
  have c0 : w1.cell? ⟨b, 0, none⟩ = some (.pointer (some ⟨b, 0, none⟩)) := by rw [cell_of_row w1 b 0 _ _ (0, 0) hbk]; rfl
  have c1 : w1.cell? ⟨b, 1, none⟩ = some v := by rw [cell_of_row w1 b 1 _ _ (0, 0) hbk]; rfl
  have z1 : B ≤ w1.heap.size := Nat.le_trans hBw hb1.bel.size
  go_wp2_with (at_builtin; refine wpList_append_own_string _ rfl _ _ 23 9 rfl B 5 i0 Try.underlying23 Try.underlying9 hi hz0 hz1 hz2 _ _ _ rfl hown s rfl ?c3 ?c4 ?c5 ?_)
  case c3 => unfold maxLen; omega
  case c4 => omega
  case c5 => omega
  intro v' w2 hown' hgrow _
  have hb2 : w2.heap[b]? = some (.cells #[.pointer (some ⟨b, 0, none⟩), v, r, l, g] 52 (0, 0)) := by
    rw [hgrow.block b hlt (fun e => hne e.symm)]
    exact hbk
  have d0 : w2.cell? ⟨b, 0, none⟩ = some (.pointer (some ⟨b, 0, none⟩)) := by rw [cell_of_row w2 b 0 _ _ (0, 0) hb2]; rfl
  have d1 : w2.cell? ⟨b, 1, none⟩ = some v := by rw [cell_of_row w2 b 1 _ _ (0, 0) hb2]; rfl
  have f1 : w2.frozen? ⟨b, 1, none⟩ = false := frozen_of_row w2 b 1 _ _ hb2
  obtain ⟨ao, n', cap, rfl⟩ : ∃ ao n' cap, v' = .slice ao n' cap := by
    rcases hown'.2 with ⟨hv, h0⟩ | ⟨g5, cap, cur, hv, _⟩
    · exact ⟨none, 0, 0, hv⟩
    · exact ⟨_, _, cap, hv⟩
  have hs : (s.size : Int) ≤ 140737488355328 := by omega
  go_wp2
  go_ret2
  refine ⟨rfl, Or.inr ?_, ?_⟩
  · exact WrAt.put hB hb2 (bs' := bs ++ strCells s) (by simpa [strCells] using hown')
  · exact (hb1.trans (FrW.grownW hown (Below.refl _ _) z1 hgrow)).setB hB hb2 1 _

set_option maxRecDepth 100000 in
set_option maxHeartbeats 1000000 in
theorem StringW (B b : Nat) (t : List UInt8) (r l g : Value) (w : World) (h : IsWr B b (byteCells t) r l g w) (h0 : t ≠ []) :
    Calls Try.prog 17 #[.pointer (some ⟨b, 0, none⟩)] w fun e w' => e = .returned (.string ⟨t.toArray⟩) ∧ Below B w w' := by
  obtain ⟨p, hB, v, hbk, hown, hne⟩ := h.at
  have hl0 : t.length ≠ 0 := by simpa using h0
  rw [byteCells_length] at hown
  obtain ⟨g5, cap, cur, rfl, hbg, hg, hnc, hcm, hcs, htake⟩ : ∃ g5 cap cur, v = .slice (some ⟨g5, 0, none⟩) t.length cap ∧ B ≤ g5 ∧ w.heap[g5]? = some (.cells cur 5 (0, 0)) ∧ t.length ≤ cap ∧ cap ≤ maxLen ∧ cur.size = cap * 1 ∧ cur.toList.take (t.length * 1) = byteCells t := by
    rcases hown.2 with ⟨_, hz⟩ | ⟨g5, cap, cur, hv, r⟩
    · exact absurd hz hl0
    · exact ⟨g5, cap, cur, hv, r⟩
  have c1 : w.drew.cell? ⟨b, 1, none⟩ = some (.slice (some ⟨g5, 0, none⟩) t.length cap) := by
    have : w.drew.heap[b]? = some (.cells #[p, .slice (some ⟨g5, 0, none⟩) t.length cap, r, l, g] 52 (0, 0)) := hbk
    rw [cell_of_heap this]; rfl
  have hSD : (Builtin.unsafeSliceData_ #[23] 68 #[.slice (some ⟨g5, 0, none⟩) t.length cap]).run Try.prog w.drew = .ok (.pointer (some ⟨g5, 0, none⟩)) w.drew :=
    run_unsafeSliceData_row _ _ _ _ _ _ (by omega)
  have hUS : (Builtin.unsafeString_ #[68, 3] 9 #[.pointer (some ⟨g5, 0, none⟩), .int .i64 t.length]).run Try.prog w.drew = .ok (.string ⟨t.toArray⟩) (w.drew.freeze ⟨g5, 0, none⟩ t.length) := by
    refine run_unsafeString_row w.drew 68 3 9 5 Try.underlying68 (by kernel_rfl) g5 cur.size (by have hg' : w.drew.heap[g5]? = some (.cells cur 5 (0, 0)) := hg; simp [World.shape?, hg']) t h0 (by omega) (by unfold maxLen at hcm; omega) ?_
    intro j x hx
    have := hown.cells (g := g5) rfl j (.int .u8 x.toNat) (by simp [byteCells, hx])
    exact this
  go_enter Try.func17, Try.ntmps17
  go_wp2
  go_region
  all_goals (go_wp2; go_ret; exact ⟨rfl, below_freeze (Below.drew (Below.refl B w)) (p := ⟨g5, 0, none⟩) hbg _⟩)
end Go.Proofs.Ytcpkejonpnmljaa
/- What writing does, as a function: wrPut (signs that stand together), wrExpr (an expression). -/
namespace Go.Proofs.Ytcpkejonpnmljaa
open Go.RowKit Go.Lib

/-- an expression as it is handed in: kind, text, parts -/
inductive Px where
  | mk (kind : Int) (text : ByteArray) (parts : List Px)
def Px.kind : Px → Int | .mk k _ _ => k
def Px.text : Px → ByteArray | .mk _ t _ => t
def Px.parts : Px → List Px | .mk _ _ p => p
theorem Px.eta (p : Px) : p = .mk p.kind p.text p.parts := by cases p; rfl
/-- the slice v reads as the expressions l, in blocks below N -/
inductive PxRow (w : World) (N : Nat) : Value → List Px → Prop
  | nil (p : Option Addr) (cap : Nat) : PxRow w N (.slice p 0 cap) []
  | row (b off n cap : Nat) (l : List Px) (ats : Nat → Int) (vs : Nat → Value) (hn : n = l.length) (hb : b < N)
      (h0 : ∀ i (h : i < l.length), w.cell? ⟨b, off + i * 4, none⟩ = some (.int .i64 (l[i]'h).kind))
      (h1 : ∀ i, i < l.length → w.cell? ⟨b, off + i * 4 + 1, none⟩ = some (.int .i64 (ats i)))
      (h2 : ∀ i (h : i < l.length), w.cell? ⟨b, off + i * 4 + 2, none⟩ = some (.string (l[i]'h).text))
      (h3 : ∀ i, i < l.length → w.cell? ⟨b, off + i * 4 + 3, none⟩ = some (vs i))
      (hp : ∀ i (h : i < l.length), PxRow w N (vs i) (l[i]'h).parts) : PxRow w N (.slice (some ⟨b, off, none⟩) n cap) l
theorem PxRow.form {w : World} {N : Nat} {v : Value} {l : List Px} (h : PxRow w N v l) : ∃ p c, v = .slice p l.length c := by
  cases h with
  | nil p c => exact ⟨p, c, rfl⟩
  | row b off n cap l ats vs hn => exact ⟨_, _, by rw [hn]⟩
theorem PxRow.stay {w w' : World} {N : Nat} {v : Value} {l : List Px} (h : PxRow w N v l) (hb : Below N w w') : PxRow w' N v l := by
  induction h with
  | nil p c => exact .nil p c
  | row b off n cap l ats vs hn hN h0 h1 h2 h3 _ ih =>
    exact .row b off n cap l ats vs hn hN (fun i h => (hb.cell (p := ⟨b, _, none⟩) hN).trans (h0 i h)) (fun i h => (hb.cell (p := ⟨b, _, none⟩) hN).trans (h1 i h)) (fun i h => (hb.cell (p := ⟨b, _, none⟩) hN).trans (h2 i h)) (fun i h => (hb.cell (p := ⟨b, _, none⟩) hN).trans (h3 i h)) ih

theorem PxRow.mono {w : World} {N N' : Nat} {v : Value} {l : List Px} (h : PxRow w N v l) (hN : N ≤ N') : PxRow w N' v l := by
  induction h with
  | nil p c => exact .nil p c
  | row b off n cap l ats vs hn hb h0 h1 h2 h3 _ ih => exact .row b off n cap l ats vs hn (Nat.lt_of_lt_of_le hb hN) h0 h1 h2 h3 ih
theorem PxRow.at {w : World} {N n c : Nat} {p : Option Addr} {l : List Px} (h : PxRow w N (.slice p n c) l) (i : Nat) (hi : i < l.length) : ∃ (rb off : Nat) (ai : Int) (vi : Value), p = some ⟨rb, off, none⟩ ∧ rb < N ∧
    w.cell? ⟨rb, off + i * 4, none⟩ = some (.int .i64 (l[i]'hi).kind) ∧ w.cell? ⟨rb, off + i * 4 + 1, none⟩ = some (.int .i64 ai) ∧ w.cell? ⟨rb, off + i * 4 + 2, none⟩ = some (.string (l[i]'hi).text) ∧ w.cell? ⟨rb, off + i * 4 + 3, none⟩ = some vi ∧ PxRow w N vi (l[i]'hi).parts := by
  cases h with
  | nil => exact absurd hi (by simp)
  | row b off n cap l ats vs hn hb h0 h1 h2 h3 hp => exact ⟨b, off, ats i, vs i, rfl, hb, h0 i hi, h1 i hi, h2 i hi, h3 i hi, hp i hi⟩

/-- what a writer has: the bytes that are written, the room that is left, the last sign, whether a blank is to come -/
structure Wr where
  out : List UInt8
  room : Nat
  last : UInt8
  gap : Bool
def wrNeed (x : Wr) (s : List UInt8) : Nat := if x.gap && (sxSign x.last.toNat && sxSign (s.headD 0).toNat) then 1 else 0
def wrPut (x : Wr) (s : List UInt8) : Option Wr :=
  if s.length + wrNeed x s ≤ x.room then some ⟨x.out ++ (if x.gap then [32] else []) ++ s, x.room - (s.length + wrNeed x s), s.getLastD 0, false⟩ else none
/-- the signs of an expression that is no list -/
def pxSigns (k : Int) (t : ByteArray) : Option (List UInt8) :=
  if k = 1 then (if sxPlain t then some t.data.toList else if sxAll sxQuo t then some (124 :: (t.data.toList ++ [124])) else none)
  else if k = 2 then (if sxNum t then some t.data.toList else none)
  else if k = 3 then (if sxKey t then some (58 :: t.data.toList) else none)
  else none
mutual
/-- texts and rows of parts are not too great -/
def pxSmall : Px → Prop
  | .mk _ t ps => t.size ≤ 281474976710656 ∧ ps.length ≤ 281474976710656 ∧ pxSmallL ps
def pxSmallL : List Px → Prop
  | [] => True
  | p :: l => pxSmall p ∧ pxSmallL l
end
theorem pxSmallL_get : ∀ {l : List Px}, pxSmallL l → ∀ i (h : i < l.length), pxSmall (l[i]'h)
  | p :: l, hs, 0, _ => by unfold pxSmallL at hs; exact hs.1
  | p :: l, hs, i + 1, h => by unfold pxSmallL at hs; exact pxSmallL_get hs.2 i (by simpa using h)
mutual
def wrExpr : Px → Nat → Wr → Option Wr
  | .mk k t ps, deep, x =>
    if k = 4 then (if t.size ≠ 0 ∨ deep = 64 then none else ((wrPut x [40]).bind fun y => wrParts ps deep false y).bind fun z => wrPut z [41])
    else match pxSigns k t with
      | none => none
      | some s => if ps.length = 0 then wrPut x s else none
def wrParts : List Px → Nat → Bool → Wr → Option Wr
  | [], _, _, x => some x
  | p :: l, deep, more, x => (wrExpr p (deep + 1) { x with gap := more }).bind fun y => wrParts l deep true y
end
def WrIs (B b : Nat) (x : Wr) (w : World) : Prop := IsWr B b (byteCells x.out) (.int .i64 (x.room : Nat)) (.int .u8 (x.last.toNat : Nat)) (.bool x.gap) w
/-- what a call of the writer's answers: whether there was room, and the writer then -/
def RWr (B b : Nat) (r : Option Wr) (w : World) (e : Ending) (w' : World) : Prop :=
  match r with
  | none => e = .returned (.bool false) ∧ FrW B w w'
  | some y => e = .returned (.bool true) ∧ WrIs B b y w' ∧ FrW B w w'
theorem WrIs.below {B b : Nat} {x : Wr} {w w' : World} (h : WrIs B b x w) (hb : Below w.heap.size w w') : WrIs B b x w' := IsWr.mapAt h fun _ k => k.below hb
theorem RWr.pre {B b : Nat} {r : Option Wr} {w w1 w' : World} {e : Ending} (h : RWr B b r w1 e w') (hb : FrW B w w1) : RWr B b r w e w' := by
  cases r with
  | none => exact ⟨h.1, hb.trans h.2⟩
  | some y => exact ⟨h.1, h.2.1, hb.trans h.2.2⟩
/-- what is written is what was, and more; the room grows less by as much, but for blanks -/
theorem wrPut_room {x y : Wr} {s : List UInt8} (h : wrPut x s = some y) : y.out.length + y.room ≤ x.out.length + x.room + (if x.gap then 1 else 0) ∧ y.room ≤ x.room := by
  unfold wrPut at h
  split at h
  · cases h
    simp
    split <;> simp <;> omega
  · cases h
end Go.Proofs.Ytcpkejonpnmljaa
/- (*sexp.writer).put. Made by gen_sxwput.py. -/
namespace Go.Proofs.Ytcpkejonpnmljaa
open Go.RowKit Go.Lib

def WrOk (x : Wr) : Prop := x.out.length + 2 * x.room ≤ 131072
theorem wrPut_ok {x y : Wr} {s : List UInt8} (hs : s ≠ []) (hx : WrOk x) (h : wrPut x s = some y) : WrOk y := by
  have h0 : 0 < s.length := List.length_pos_iff.2 hs
  unfold WrOk at *
  unfold wrPut at h
  split at h
  · cases h
    simp
    split <;> simp <;> omega
  · cases h
theorem last_byte (s : ByteArray) (h : 0 < s.size) : s[s.size - 1]'(by omega) = s.data.toList.getLastD 0 := by
  have hl : s.data.toList.length = s.size := Array.length_toList
  have e : s.data.toList[s.size - 1]? = some (s[s.size - 1]'(by omega)) := by
    rw [Array.getElem?_toList]; exact Array.getElem?_eq_getElem (by exact (show s.size - 1 < s.data.size by show _ < s.size; omega))
  rw [List.getLastD_eq_getLast?, List.getLast?_eq_getElem?, hl, e]; rfl
theorem head_byte (s : ByteArray) (h : 0 < s.size) : s[0]'h = s.data.toList.headD 0 := by
  have e : s.data.toList[0]? = some (s[0]'h) := by rw [Array.getElem?_toList]; exact Array.getElem?_eq_getElem h
  cases hl : s.data.toList with
  | nil => rw [hl] at e; cases e
  | cons c l => rw [hl] at e; simpa using e.symm

set_option maxRecDepth 100000 in
set_option maxHeartbeats 3200000 in
theorem wput_A1 (B b room : Nat) (out : List UInt8) (last : UInt8) (s : ByteArray) (w : World) (h : IsWr B b (byteCells out) (.int .i64 (room : Nat)) (.int .u8 (last.toNat : Nat)) (.bool false) w) (hok : out.length + 2 * room ≤ 131072) (h0 : 0 < s.size) (hs : s.size ≤ 1125899906842624) (hBw : B ≤ w.heap.size) (hr : s.size + 0 ≤ room) :
    Calls Try.prog 27 #[.pointer (some ⟨b, 0, none⟩), .string s] w fun e w' => e = .returned (.bool true) ∧ IsWr B b (byteCells out ++ strCells s) (.int .i64 ((room : Int) - s.size)) (.int .u8 ((s[s.size - 1]'(by omega)).toNat : Nat)) (.bool false) w' ∧ FrW B w w' := by
  have c2 := h.cell2; have f2 := h.frozen 2
  have q1 : (room : Int) ≤ 65536 := by omega
  have q2 : (s.size : Int) ≤ 65536 := by omega
  have q3 : ¬ (room : Int) - s.size < 0 := by omega
  have H := hid h
  clear h
  go_enter Try.func27, Try.ntmps27
  go_upto_region 2 with fail
  generalize hW : World.setCell w _ _ = W1
  have h1 : IsWr B b (byteCells out) (.int .i64 ((room : Int) - s.size)) (.int .u8 (last.toNat : Nat)) (.bool false) W1 := by rw [← hW]; exact H.out.set2 _
  have hb1 : FrW B w W1 := by rw [← hW]; exact (FrW.refl B w).setWr H.out 2 _
  have c2 := h1.cell2; have c3 := h1.cell3; have c4 := h1.cell4; have f2 := h1.frozen 2
  have H1 := hid h1; have HB1 := hid hb1
  clear hW h1 hb1 H
  go_wp2_with fail
  clear c2 c3 c4 f2
  refine (WriteStringW B b (byteCells out) _ _ _ s _ H1.out (by simp [byteCells_length]; omega) (Nat.le_trans hBw HB1.out.bel.size)).mono ?_
  rintro e w3 ⟨rfl, h3, hb3⟩
  have d3 := h3.cell3; have d4 := h3.cell4; have f3 := h3.frozen 3; have f4 := h3.frozen 4
  have z1 : (1 : Int) ≤ (s.size : Int) ∧ (s.size : Int) - 1 < (s.size : Int) := by omega
  have H3 := hid h3; have HB3 := hid (HB1.out.trans hb3)
  clear h3 hb3 H1 HB1
  go_wp2_with fail
  go_ret
  exact ⟨rfl, (H3.out.set3 _).set4 _, (HB3.out.setWr H3.out 3 _).setWr (H3.out.set3 _) 4 _⟩

set_option maxRecDepth 100000 in
set_option maxHeartbeats 3200000 in
theorem wput_A0 (B b room : Nat) (out : List UInt8) (last : UInt8) (s : ByteArray) (w : World) (h : IsWr B b (byteCells out) (.int .i64 (room : Nat)) (.int .u8 (last.toNat : Nat)) (.bool false) w) (hok : out.length + 2 * room ≤ 131072) (h0 : 0 < s.size) (hs : s.size ≤ 1125899906842624) (hBw : B ≤ w.heap.size) (hr : ¬ s.size + 0 ≤ room) :
    Calls Try.prog 27 #[.pointer (some ⟨b, 0, none⟩), .string s] w fun e w' => e = .returned (.bool false) ∧ FrW B w w' := by
  have c2 := h.cell2; have f2 := h.frozen 2
  have q1 : (room : Int) ≤ 65536 := by omega
  have q2 : (s.size : Int) ≤ 1125899906842624 := by omega
  have q3 : (room : Int) - s.size < 0 := by omega
  have H := hid h
  clear h
  go_enter Try.func27, Try.ntmps27
  go_upto_region 2 with fail
  generalize hW : World.setCell w _ _ = W1
  have h1 : IsWr B b (byteCells out) (.int .i64 ((room : Int) - s.size)) (.int .u8 (last.toNat : Nat)) (.bool false) W1 := by rw [← hW]; exact H.out.set2 _
  have hb1 : FrW B w W1 := by rw [← hW]; exact (FrW.refl B w).setWr H.out 2 _
  have c2 := h1.cell2; have c3 := h1.cell3; have c4 := h1.cell4; have f2 := h1.frozen 2
  have H1 := hid h1; have HB1 := hid hb1
  clear hW h1 hb1 H
  go_wp2_with fail
  go_ret
  exact ⟨rfl, HB1.out⟩

set_option maxRecDepth 100000 in
set_option maxHeartbeats 3200000 in
theorem wput_B1 (B b room : Nat) (out : List UInt8) (last : UInt8) (s : ByteArray) (w : World) (h : IsWr B b (byteCells out) (.int .i64 (room : Nat)) (.int .u8 (last.toNat : Nat)) (.bool true) w) (hok : out.length + 2 * room ≤ 131072) (h0 : 0 < s.size) (hs : s.size ≤ 1125899906842624) (hBw : B ≤ w.heap.size) (hsl : sxSign last.toNat = false) (hr : s.size + 0 ≤ room) :
    Calls Try.prog 27 #[.pointer (some ⟨b, 0, none⟩), .string s] w fun e w' => e = .returned (.bool true) ∧ IsWr B b (byteCells out ++ [.int .u8 32] ++ strCells s) (.int .i64 ((room : Int) - s.size)) (.int .u8 ((s[s.size - 1]'(by omega)).toNat : Nat)) (.bool false) w' ∧ FrW B w w' := by
  have c2 := h.cell2; have f2 := h.frozen 2
  have q1 : (room : Int) ≤ 65536 := by omega
  have q2 : (s.size : Int) ≤ 65536 := by omega
  have q3 : ¬ (room : Int) - s.size < 0 := by omega
  have H := hid h
  clear h
  go_enter Try.func27, Try.ntmps27
  go_upto_region 2 with fail
  generalize hW : World.setCell w _ _ = W1
  have h1 : IsWr B b (byteCells out) (.int .i64 ((room : Int) - s.size)) (.int .u8 (last.toNat : Nat)) (.bool true) W1 := by rw [← hW]; exact H.out.set2 _
  have hb1 : FrW B w W1 := by rw [← hW]; exact (FrW.refl B w).setWr H.out 2 _
  have c2 := h1.cell2; have c3 := h1.cell3; have c4 := h1.cell4; have f2 := h1.frozen 2
  have hs1 := hid (isSign_any last.toNat (UInt8.toNat_lt _) W1)
  rw [hsl] at hs1
  have H1 := hid h1; have HB1 := hid hb1
  clear hW h1 hb1 H
  go_wp2_with fail
  refine hs1.out.mono ?_
  rintro e w' ⟨rfl, rfl⟩
  go_wp2_with fail
  refine (WriteByteW B b (byteCells out) _ _ _ 32 _ H1.out (by rw [byteCells_length]; omega) (Nat.le_trans hBw HB1.out.bel.size)).mono ?_
  rintro e w2 ⟨rfl, h2, hb2⟩
  clear c2 c3 c4 f2
  have H2 := hid h2; have HB2 := hid (HB1.out.trans hb2)
  clear h2 hb2 H1 HB1
  go_wp2_with fail
  refine (WriteStringW B b (byteCells out ++ [.int .u8 32]) _ _ _ s _ H2.out (by simp [byteCells_length]; omega) (Nat.le_trans hBw HB2.out.bel.size)).mono ?_
  rintro e w3 ⟨rfl, h3, hb3⟩
  have d3 := h3.cell3; have d4 := h3.cell4; have f3 := h3.frozen 3; have f4 := h3.frozen 4
  have z1 : (1 : Int) ≤ (s.size : Int) ∧ (s.size : Int) - 1 < (s.size : Int) := by omega
  have H3 := hid h3; have HB3 := hid (HB2.out.trans hb3)
  clear h3 hb3 H2 HB2
  go_wp2_with fail
  go_ret
  exact ⟨rfl, (H3.out.set3 _).set4 _, (HB3.out.setWr H3.out 3 _).setWr (H3.out.set3 _) 4 _⟩

set_option maxRecDepth 100000 in
set_option maxHeartbeats 3200000 in
theorem wput_B0 (B b room : Nat) (out : List UInt8) (last : UInt8) (s : ByteArray) (w : World) (h : IsWr B b (byteCells out) (.int .i64 (room : Nat)) (.int .u8 (last.toNat : Nat)) (.bool true) w) (hok : out.length + 2 * room ≤ 131072) (h0 : 0 < s.size) (hs : s.size ≤ 1125899906842624) (hBw : B ≤ w.heap.size) (hsl : sxSign last.toNat = false) (hr : ¬ s.size + 0 ≤ room) :
    Calls Try.prog 27 #[.pointer (some ⟨b, 0, none⟩), .string s] w fun e w' => e = .returned (.bool false) ∧ FrW B w w' := by
  have c2 := h.cell2; have f2 := h.frozen 2
  have q1 : (room : Int) ≤ 65536 := by omega
  have q2 : (s.size : Int) ≤ 1125899906842624 := by omega
  have q3 : (room : Int) - s.size < 0 := by omega
  have H := hid h
  clear h
  go_enter Try.func27, Try.ntmps27
  go_upto_region 2 with fail
  generalize hW : World.setCell w _ _ = W1
  have h1 : IsWr B b (byteCells out) (.int .i64 ((room : Int) - s.size)) (.int .u8 (last.toNat : Nat)) (.bool true) W1 := by rw [← hW]; exact H.out.set2 _
  have hb1 : FrW B w W1 := by rw [← hW]; exact (FrW.refl B w).setWr H.out 2 _
  have c2 := h1.cell2; have c3 := h1.cell3; have c4 := h1.cell4; have f2 := h1.frozen 2
  have hs1 := hid (isSign_any last.toNat (UInt8.toNat_lt _) W1)
  rw [hsl] at hs1
  have H1 := hid h1; have HB1 := hid hb1
  clear hW h1 hb1 H
  go_wp2_with fail
  refine hs1.out.mono ?_
  rintro e w' ⟨rfl, rfl⟩
  go_wp2_with fail
  go_ret
  exact ⟨rfl, HB1.out⟩

set_option maxRecDepth 100000 in
set_option maxHeartbeats 3200000 in
theorem wput_C1 (B b room : Nat) (out : List UInt8) (last : UInt8) (s : ByteArray) (w : World) (h : IsWr B b (byteCells out) (.int .i64 (room : Nat)) (.int .u8 (last.toNat : Nat)) (.bool true) w) (hok : out.length + 2 * room ≤ 131072) (h0 : 0 < s.size) (hs : s.size ≤ 1125899906842624) (hBw : B ≤ w.heap.size) (hsl : sxSign last.toNat = true) (hss : sxSign (s[0]'h0).toNat = false) (hr : s.size + 0 ≤ room) :
    Calls Try.prog 27 #[.pointer (some ⟨b, 0, none⟩), .string s] w fun e w' => e = .returned (.bool true) ∧ IsWr B b (byteCells out ++ [.int .u8 32] ++ strCells s) (.int .i64 ((room : Int) - s.size)) (.int .u8 ((s[s.size - 1]'(by omega)).toNat : Nat)) (.bool false) w' ∧ FrW B w w' := by
  have c2 := h.cell2; have f2 := h.frozen 2
  have q1 : (room : Int) ≤ 65536 := by omega
  have q2 : (s.size : Int) ≤ 65536 := by omega
  have q3 : ¬ (room : Int) - s.size < 0 := by omega
  have H := hid h
  clear h
  go_enter Try.func27, Try.ntmps27
  go_upto_region 2 with fail
  generalize hW : World.setCell w _ _ = W1
  have h1 : IsWr B b (byteCells out) (.int .i64 ((room : Int) - s.size)) (.int .u8 (last.toNat : Nat)) (.bool true) W1 := by rw [← hW]; exact H.out.set2 _
  have hb1 : FrW B w W1 := by rw [← hW]; exact (FrW.refl B w).setWr H.out 2 _
  have c2 := h1.cell2; have c3 := h1.cell3; have c4 := h1.cell4; have f2 := h1.frozen 2
  have hs1 := hid (isSign_any last.toNat (UInt8.toNat_lt _) W1)
  have hs2 := hid (isSign_any (s[0]'h0).toNat (UInt8.toNat_lt _) W1)
  rw [hsl] at hs1
  rw [hss] at hs2
  have z0 : (0 : Int) < (s.size : Int) := by omega
  have H1 := hid h1; have HB1 := hid hb1
  clear hW h1 hb1 H
  go_wp2_with fail
  refine hs1.out.mono ?_
  rintro e w' ⟨rfl, rfl⟩
  go_wp2_with fail
  refine hs2.out.mono ?_
  rintro e w' ⟨rfl, rfl⟩
  go_wp2_with fail
  refine (WriteByteW B b (byteCells out) _ _ _ 32 _ H1.out (by rw [byteCells_length]; omega) (Nat.le_trans hBw HB1.out.bel.size)).mono ?_
  rintro e w2 ⟨rfl, h2, hb2⟩
  clear c2 c3 c4 f2
  have H2 := hid h2; have HB2 := hid (HB1.out.trans hb2)
  clear h2 hb2 H1 HB1
  go_wp2_with fail
  refine (WriteStringW B b (byteCells out ++ [.int .u8 32]) _ _ _ s _ H2.out (by simp [byteCells_length]; omega) (Nat.le_trans hBw HB2.out.bel.size)).mono ?_
  rintro e w3 ⟨rfl, h3, hb3⟩
  have d3 := h3.cell3; have d4 := h3.cell4; have f3 := h3.frozen 3; have f4 := h3.frozen 4
  have z1 : (1 : Int) ≤ (s.size : Int) ∧ (s.size : Int) - 1 < (s.size : Int) := by omega
  have H3 := hid h3; have HB3 := hid (HB2.out.trans hb3)
  clear h3 hb3 H2 HB2
  go_wp2_with fail
  go_ret
  exact ⟨rfl, (H3.out.set3 _).set4 _, (HB3.out.setWr H3.out 3 _).setWr (H3.out.set3 _) 4 _⟩

set_option maxRecDepth 100000 in
set_option maxHeartbeats 3200000 in
theorem wput_C0 (B b room : Nat) (out : List UInt8) (last : UInt8) (s : ByteArray) (w : World) (h : IsWr B b (byteCells out) (.int .i64 (room : Nat)) (.int .u8 (last.toNat : Nat)) (.bool true) w) (hok : out.length + 2 * room ≤ 131072) (h0 : 0 < s.size) (hs : s.size ≤ 1125899906842624) (hBw : B ≤ w.heap.size) (hsl : sxSign last.toNat = true) (hss : sxSign (s[0]'h0).toNat = false) (hr : ¬ s.size + 0 ≤ room) :
    Calls Try.prog 27 #[.pointer (some ⟨b, 0, none⟩), .string s] w fun e w' => e = .returned (.bool false) ∧ FrW B w w' := by
  have c2 := h.cell2; have f2 := h.frozen 2
  have q1 : (room : Int) ≤ 65536 := by omega
  have q2 : (s.size : Int) ≤ 1125899906842624 := by omega
  have q3 : (room : Int) - s.size < 0 := by omega
  have H := hid h
  clear h
  go_enter Try.func27, Try.ntmps27
  go_upto_region 2 with fail
  generalize hW : World.setCell w _ _ = W1
  have h1 : IsWr B b (byteCells out) (.int .i64 ((room : Int) - s.size)) (.int .u8 (last.toNat : Nat)) (.bool true) W1 := by rw [← hW]; exact H.out.set2 _
  have hb1 : FrW B w W1 := by rw [← hW]; exact (FrW.refl B w).setWr H.out 2 _
  have c2 := h1.cell2; have c3 := h1.cell3; have c4 := h1.cell4; have f2 := h1.frozen 2
  have hs1 := hid (isSign_any last.toNat (UInt8.toNat_lt _) W1)
  have hs2 := hid (isSign_any (s[0]'h0).toNat (UInt8.toNat_lt _) W1)
  rw [hsl] at hs1
  rw [hss] at hs2
  have z0 : (0 : Int) < (s.size : Int) := by omega
  have H1 := hid h1; have HB1 := hid hb1
  clear hW h1 hb1 H
  go_wp2_with fail
  refine hs1.out.mono ?_
  rintro e w' ⟨rfl, rfl⟩
  go_wp2_with fail
  refine hs2.out.mono ?_
  rintro e w' ⟨rfl, rfl⟩
  go_wp2_with fail
  go_ret
  exact ⟨rfl, HB1.out⟩

set_option maxRecDepth 100000 in
set_option maxHeartbeats 3200000 in
theorem wput_D1 (B b room : Nat) (out : List UInt8) (last : UInt8) (s : ByteArray) (w : World) (h : IsWr B b (byteCells out) (.int .i64 (room : Nat)) (.int .u8 (last.toNat : Nat)) (.bool true) w) (hok : out.length + 2 * room ≤ 131072) (h0 : 0 < s.size) (hs : s.size ≤ 1125899906842624) (hBw : B ≤ w.heap.size) (hsl : sxSign last.toNat = true) (hss : sxSign (s[0]'h0).toNat = true) (hr : s.size + 1 ≤ room) :
    Calls Try.prog 27 #[.pointer (some ⟨b, 0, none⟩), .string s] w fun e w' => e = .returned (.bool true) ∧ IsWr B b (byteCells out ++ [.int .u8 32] ++ strCells s) (.int .i64 ((room : Int) - s.size - 1)) (.int .u8 ((s[s.size - 1]'(by omega)).toNat : Nat)) (.bool false) w' ∧ FrW B w w' := by
  have c2 := h.cell2; have f2 := h.frozen 2
  have q1 : (room : Int) ≤ 65536 := by omega
  have q2 : (s.size : Int) ≤ 65536 := by omega
  have q3 : ¬ (room : Int) - s.size - 1 < 0 := by omega
  have H := hid h
  clear h
  go_enter Try.func27, Try.ntmps27
  go_upto_region 2 with fail
  generalize hW : World.setCell w _ _ = W1
  have h1 : IsWr B b (byteCells out) (.int .i64 ((room : Int) - s.size)) (.int .u8 (last.toNat : Nat)) (.bool true) W1 := by rw [← hW]; exact H.out.set2 _
  have hb1 : FrW B w W1 := by rw [← hW]; exact (FrW.refl B w).setWr H.out 2 _
  have c2 := h1.cell2; have c3 := h1.cell3; have c4 := h1.cell4; have f2 := h1.frozen 2
  have hs1 := hid (isSign_any last.toNat (UInt8.toNat_lt _) W1)
  have hs2 := hid (isSign_any (s[0]'h0).toNat (UInt8.toNat_lt _) W1)
  rw [hsl] at hs1
  rw [hss] at hs2
  have z0 : (0 : Int) < (s.size : Int) := by omega
  have H1 := hid h1; have HB1 := hid hb1
  clear hW h1 hb1 H
  go_wp2_with fail
  refine hs1.out.mono ?_
  rintro e w' ⟨rfl, rfl⟩
  go_wp2_with fail
  refine hs2.out.mono ?_
  rintro e w' ⟨rfl, rfl⟩
  go_upto_region 4 with fail
  generalize hW : World.setCell W1 _ _ = W2
  have h1 : IsWr B b (byteCells out) (.int .i64 ((room : Int) - s.size - 1)) (.int .u8 (last.toNat : Nat)) (.bool true) W2 := by rw [← hW]; exact H1.out.set2 _
  have hb1 : FrW B w W2 := by rw [← hW]; exact HB1.out.setWr H1.out 2 _
  clear c2 c3 c4 f2 hs1 hs2
  have c2 := h1.cell2; have c3 := h1.cell3; have c4 := h1.cell4; have f2 := h1.frozen 2
  clear H1 HB1
  have H1 := hid h1; have HB1 := hid hb1
  clear hW h1 hb1
  go_wp2_with fail
  refine (WriteByteW B b (byteCells out) _ _ _ 32 _ H1.out (by rw [byteCells_length]; omega) (Nat.le_trans hBw HB1.out.bel.size)).mono ?_
  rintro e w2 ⟨rfl, h2, hb2⟩
  clear c2 c3 c4 f2
  have H2 := hid h2; have HB2 := hid (HB1.out.trans hb2)
  clear h2 hb2 H1 HB1
  go_wp2_with fail
  refine (WriteStringW B b (byteCells out ++ [.int .u8 32]) _ _ _ s _ H2.out (by simp [byteCells_length]; omega) (Nat.le_trans hBw HB2.out.bel.size)).mono ?_
  rintro e w3 ⟨rfl, h3, hb3⟩
  have d3 := h3.cell3; have d4 := h3.cell4; have f3 := h3.frozen 3; have f4 := h3.frozen 4
  have z1 : (1 : Int) ≤ (s.size : Int) ∧ (s.size : Int) - 1 < (s.size : Int) := by omega
  have H3 := hid h3; have HB3 := hid (HB2.out.trans hb3)
  clear h3 hb3 H2 HB2
  go_wp2_with fail
  go_ret
  exact ⟨rfl, (H3.out.set3 _).set4 _, (HB3.out.setWr H3.out 3 _).setWr (H3.out.set3 _) 4 _⟩

set_option maxRecDepth 100000 in
set_option maxHeartbeats 3200000 in
theorem wput_D0 (B b room : Nat) (out : List UInt8) (last : UInt8) (s : ByteArray) (w : World) (h : IsWr B b (byteCells out) (.int .i64 (room : Nat)) (.int .u8 (last.toNat : Nat)) (.bool true) w) (hok : out.length + 2 * room ≤ 131072) (h0 : 0 < s.size) (hs : s.size ≤ 1125899906842624) (hBw : B ≤ w.heap.size) (hsl : sxSign last.toNat = true) (hss : sxSign (s[0]'h0).toNat = true) (hr : ¬ s.size + 1 ≤ room) :
    Calls Try.prog 27 #[.pointer (some ⟨b, 0, none⟩), .string s] w fun e w' => e = .returned (.bool false) ∧ FrW B w w' := by
  have c2 := h.cell2; have f2 := h.frozen 2
  have q1 : (room : Int) ≤ 65536 := by omega
  have q2 : (s.size : Int) ≤ 1125899906842624 := by omega
  have q3 : (room : Int) - s.size - 1 < 0 := by omega
  have H := hid h
  clear h
  go_enter Try.func27, Try.ntmps27
  go_upto_region 2 with fail
  generalize hW : World.setCell w _ _ = W1
  have h1 : IsWr B b (byteCells out) (.int .i64 ((room : Int) - s.size)) (.int .u8 (last.toNat : Nat)) (.bool true) W1 := by rw [← hW]; exact H.out.set2 _
  have hb1 : FrW B w W1 := by rw [← hW]; exact (FrW.refl B w).setWr H.out 2 _
  have c2 := h1.cell2; have c3 := h1.cell3; have c4 := h1.cell4; have f2 := h1.frozen 2
  have hs1 := hid (isSign_any last.toNat (UInt8.toNat_lt _) W1)
  have hs2 := hid (isSign_any (s[0]'h0).toNat (UInt8.toNat_lt _) W1)
  rw [hsl] at hs1
  rw [hss] at hs2
  have z0 : (0 : Int) < (s.size : Int) := by omega
  have H1 := hid h1; have HB1 := hid hb1
  clear hW h1 hb1 H
  go_wp2_with fail
  refine hs1.out.mono ?_
  rintro e w' ⟨rfl, rfl⟩
  go_wp2_with fail
  refine hs2.out.mono ?_
  rintro e w' ⟨rfl, rfl⟩
  go_upto_region 4 with fail
  generalize hW : World.setCell W1 _ _ = W2
  have h1 : IsWr B b (byteCells out) (.int .i64 ((room : Int) - s.size - 1)) (.int .u8 (last.toNat : Nat)) (.bool true) W2 := by rw [← hW]; exact H1.out.set2 _
  have hb1 : FrW B w W2 := by rw [← hW]; exact HB1.out.setWr H1.out 2 _
  clear c2 c3 c4 f2 hs1 hs2
  have c2 := h1.cell2; have c3 := h1.cell3; have c4 := h1.cell4; have f2 := h1.frozen 2
  clear H1 HB1
  have H1 := hid h1; have HB1 := hid hb1
  clear hW h1 hb1
  go_wp2_with fail
  go_ret
  exact ⟨rfl, HB1.out⟩

/-- signs that stand together -/
theorem wput_any (B b : Nat) (x : Wr) (s : ByteArray) (w : World) (h : WrIs B b x w) (hok : WrOk x) (h0 : 0 < s.size) (hs : s.size ≤ 1125899906842624) (hBw : B ≤ w.heap.size) :
    Calls Try.prog 27 #[.pointer (some ⟨b, 0, none⟩), .string s] w (RWr B b (wrPut x s.data.toList) w) := by
  obtain ⟨out, room, last, gap⟩ := x
  have hl : s.data.toList.length = s.size := Array.length_toList
  have hy : ∀ (r : Nat) (bl : List UInt8) (k : Int) (w' : World) (e : Ending), k = (r : Nat) → e = .returned (.bool true) ∧ IsWr B b (byteCells out ++ byteCells bl ++ strCells s) (.int .i64 k) (.int .u8 ((s[s.size - 1]'(by omega)).toNat : Nat)) (.bool false) w' ∧ FrW B w w' →
      RWr B b (some ⟨out ++ bl ++ s.data.toList, r, s.data.toList.getLastD 0, false⟩) w e w' := fun r bl k w' e hk ⟨h1, h2, h3⟩ => by
    refine ⟨h1, ?_, h3⟩
    unfold WrIs
    rw [byteCells_append, byteCells_append, ← strCells_eq, ← last_byte s h0, ← hk]
    exact h2
  unfold wrPut wrNeed
  simp only
  rw [← head_byte s h0, hl]
  cases gap with
  | false =>
    simp only [Bool.false_and, Bool.false_eq_true, if_false]
    by_cases hr : s.size + 0 ≤ room
    · rw [if_pos hr]
      refine (wput_A1 B b room out last s w h hok h0 hs hBw hr).mono fun e w' hp => hy (room - (s.size + 0)) [] ((room : Int) - s.size) w' e (by omega) ?_
      simpa [byteCells] using hp
    · rw [if_neg hr]
      exact wput_A0 B b room out last s w h hok h0 hs hBw hr
  | true =>
    cases hsl : sxSign last.toNat with
    | false =>
      simp only [Bool.false_and, Bool.and_false, Bool.false_eq_true, if_false, if_true]
      by_cases hr : s.size + 0 ≤ room
      · rw [if_pos hr]
        exact (wput_B1 B b room out last s w h hok h0 hs hBw hsl hr).mono fun e w' hp => hy (room - (s.size + 0)) [32] ((room : Int) - s.size) w' e (by omega) hp
      · rw [if_neg hr]
        exact wput_B0 B b room out last s w h hok h0 hs hBw hsl hr
    | true =>
      cases hss : sxSign (s[0]'h0).toNat with
      | false =>
        simp only [Bool.true_and, Bool.and_false, Bool.false_eq_true, if_false, if_true]
        by_cases hr : s.size + 0 ≤ room
        · rw [if_pos hr]
          exact (wput_C1 B b room out last s w h hok h0 hs hBw hsl hss hr).mono fun e w' hp => hy (room - (s.size + 0)) [32] ((room : Int) - s.size) w' e (by omega) hp
        · rw [if_neg hr]
          exact wput_C0 B b room out last s w h hok h0 hs hBw hsl hss hr
      | true =>
        simp only [Bool.true_and, if_true]
        by_cases hr : s.size + 1 ≤ room
        · rw [if_pos hr]
          exact (wput_D1 B b room out last s w h hok h0 hs hBw hsl hss hr).mono fun e w' hp => hy (room - (s.size + 1)) [32] ((room : Int) - s.size - 1) w' e (by omega) hp
        · rw [if_neg hr]
          exact wput_D0 B b room out last s w h hok h0 hs hBw hsl hss hr
end Go.Proofs.Ytcpkejonpnmljaa
/- sexp.signsOf. -/
namespace Go.Proofs.Ytcpkejonpnmljaa
open Go.RowKit Go.Lib

theorem run_add (P : Program) (a b : ByteArray) (w : World) (h : a.size + b.size ≤ 9223372036854775807) : (Op.stringOp .add a b).run P w = .ok (.string (a ++ b)) w := by
  have h1 : ¬ (((a.size + b.size : Nat) : Int) > IntKind.i64.max) := by
    have : IntKind.i64.max = 9223372036854775807 := rfl
    omega
  simp only [Op.stringOp]
  rw [if_neg h1]
  rfl
def RSigns (r : Option (List UInt8)) (w : World) (e : Ending) (w' : World) : Prop := ∃ (u : ByteArray) (ok : Bool), e = .returned (.tuple #[.string u, .bool ok]) ∧ Below w.heap.size w w' ∧
  match r with
  | some s => ok = true ∧ u.data.toList = s
  | none => ok = false

set_option maxRecDepth 100000 in
set_option maxHeartbeats 3200000 in
theorem signsOf_any (k a : Int) (t : ByteArray) (pv : Value) (w : World) (ht : t.size ≤ 562949953421312) :
    Calls Try.prog 26 #[.agg #[.int .i64 k, .int .i64 a, .string t, pv]] w (RSigns (pxSigns k t) w) := by
  have ht' : t.size ≤ 9223372036854775807 := by omega
  have hp := fun w => isPlain_any t w ht'
  have hn := fun w => isNumeral_any t w ht'
  have hk := fun w => isKey_any t w ht'
  have hq := fun w => all_sxQuo t w ht'
  have ad1 : ∀ w, (Op.stringOp .add ⟨#[124]⟩ t).run Try.prog w = .ok (.string (⟨#[124]⟩ ++ t)) w := fun w => run_add _ _ _ w (by show 1 + t.size ≤ _; omega)
  have ad2 : ∀ w, (Op.stringOp .add (⟨#[124]⟩ ++ t) ⟨#[124]⟩).run Try.prog w = .ok (.string (⟨#[124]⟩ ++ t ++ ⟨#[124]⟩)) w := fun w => run_add _ _ _ w (by rw [ByteArray.size_append]; show 1 + t.size + 1 ≤ _; omega)
  have ad3 : ∀ w, (Op.stringOp .add ⟨#[58]⟩ t).run Try.prog w = .ok (.string (⟨#[58]⟩ ++ t)) w := fun w => run_add _ _ _ w (by show 1 + t.size ≤ _; omega)
  have l1 : (⟨#[124]⟩ ++ t ++ ⟨#[124]⟩ : ByteArray).data.toList = 124 :: (t.data.toList ++ [124]) := by simp
  have l2 : (⟨#[58]⟩ ++ t : ByteArray).data.toList = 58 :: t.data.toList := by simp
  have L1 := hid l1; have L2 := hid l2
  clear l1 l2
  generalize (⟨#[124]⟩ ++ t ++ ⟨#[124]⟩ : ByteArray) = T1 at *
  generalize (⟨#[124]⟩ ++ t : ByteArray) = T0 at *
  generalize (⟨#[58]⟩ ++ t : ByteArray) = T2 at *
  obtain ⟨r, hr⟩ : ∃ r, r = pxSigns k t := ⟨_, rfl⟩
  rw [← hr]
  unfold pxSigns at hr
  by_cases h1 : k = 1
  · subst h1
    simp only [if_true] at hr
    cases hpl : sxPlain t with
    | true =>
      simp only [hpl, if_true] at hr hp
      have Hp := hid hp; have Hr := hid hr
      clear hp hn hk hq hr
      go_enter Try.func26, Try.ntmps26
      go_wp2_with fail
      refine (Hp.out _).mono ?_
      rintro e w' ⟨rfl, rfl⟩
      go_wp2_with fail
      go_ret2
      exact ⟨_, _, rfl, below1 _ _, by rw [Hr.out]; exact ⟨rfl, rfl⟩⟩
    | false =>
      simp only [hpl, Bool.false_eq_true, if_false] at hr hp
      cases hqq : sxAll sxQuo t with
      | true =>
        simp only [hqq, if_true] at hr hq
        have Hp := hid hp; have Hr := hid hr; have Hq := hid hq
        clear hp hn hk hq hr
        go_enter Try.func26, Try.ntmps26
        go_wp2_with fail
        refine (Hp.out _).mono ?_
        rintro e w' ⟨rfl, rfl⟩
        go_wp2_with fail
        go_quiet ((go_at_call 42; exact Calls.quiet_of_same ((Hq.out _).mono fun _ _ h => ⟨h.1, h.2.symm⟩)))
        go_wp2_with fail
        go_ret2
        exact ⟨_, _, rfl, below_drewN (below1 _ _) _, by rw [Hr.out]; exact ⟨rfl, L1.out⟩⟩
      | false =>
        simp only [hqq, Bool.false_eq_true, if_false] at hr hq
        have Hp := hid hp; have Hr := hid hr; have Hq := hid hq
        clear hp hn hk hq hr
        go_enter Try.func26, Try.ntmps26
        go_wp2_with fail
        refine (Hp.out _).mono ?_
        rintro e w' ⟨rfl, rfl⟩
        go_wp2_with fail
        go_quiet ((go_at_call 42; exact Calls.quiet_of_same ((Hq.out _).mono fun _ _ h => ⟨h.1, h.2.symm⟩)))
        go_wp2_with fail
        go_ret2
        exact ⟨_, _, rfl, below_drewN (below1 _ _) _, by rw [Hr.out]⟩
  · by_cases h2 : k = 2
    · subst h2
      rw [if_neg (by decide), if_pos rfl] at hr
      cases hb : sxNum t with
      | true =>
        simp only [hb, if_true] at hr hn
        have Hn := hid hn; have Hr := hid hr
        clear hp hn hk hq hr
        go_enter Try.func26, Try.ntmps26
        go_wp2_with fail
        go_quiet ((go_at_call 44; exact Calls.quiet_of_same ((Hn.out _).mono fun _ _ h => ⟨h.1, h.2.symm⟩)))
        go_wp2_with fail
        go_ret2
        exact ⟨_, _, rfl, below_drewN (below1 _ _) _, by rw [Hr.out]; exact ⟨rfl, rfl⟩⟩
      | false =>
        simp only [hb, Bool.false_eq_true, if_false] at hr hn
        have Hn := hid hn; have Hr := hid hr
        clear hp hn hk hq hr
        go_enter Try.func26, Try.ntmps26
        go_wp2_with fail
        go_quiet ((go_at_call 44; exact Calls.quiet_of_same ((Hn.out _).mono fun _ _ h => ⟨h.1, h.2.symm⟩)))
        go_wp2_with fail
        go_ret2
        exact ⟨_, _, rfl, below_drewN (below1 _ _) _, by rw [Hr.out]⟩
    · by_cases h3 : k = 3
      · subst h3
        rw [if_neg (by decide), if_neg (by decide), if_pos rfl] at hr
        cases hb : sxKey t with
        | true =>
          simp only [hb, if_true] at hr hk
          have Hk := hid hk; have Hr := hid hr
          clear hp hn hk hq hr
          go_enter Try.func26, Try.ntmps26
          go_wp2_with fail
          go_quiet ((go_at_call 45; exact Calls.quiet_of_same ((Hk.out _).mono fun _ _ h => ⟨h.1, h.2.symm⟩)))
          go_wp2_with fail
          go_ret2
          exact ⟨_, _, rfl, below_drewN (below1 _ _) _, by rw [Hr.out]; exact ⟨rfl, L2.out⟩⟩
        | false =>
          simp only [hb, Bool.false_eq_true, if_false] at hr hk
          have Hk := hid hk; have Hr := hid hr
          clear hp hn hk hq hr
          go_enter Try.func26, Try.ntmps26
          go_wp2_with fail
          go_quiet ((go_at_call 45; exact Calls.quiet_of_same ((Hk.out _).mono fun _ _ h => ⟨h.1, h.2.symm⟩)))
          go_wp2_with fail
          go_ret2
          exact ⟨_, _, rfl, below_drewN (below1 _ _) _, by rw [Hr.out]⟩
      · rw [if_neg h1, if_neg h2, if_neg h3] at hr
        have Hr := hid hr
        clear hp hn hk hq hr
        go_enter Try.func26, Try.ntmps26
        go_wp2_with fail
        go_ret2
        exact ⟨_, _, rfl, below1 _ _, by rw [Hr.out]⟩
end Go.Proofs.Ytcpkejonpnmljaa
/- (*sexp.writer).list, expr; sexp.Print. -/
namespace Go.Proofs.Ytcpkejonpnmljaa
open Go.RowKit Go.Lib

def WExpr (B b : Nat) (p : Px) : Prop := ∀ (deep : Nat) (x : Wr) (a : Int) (v : Value) (w : World), deep ≤ 64 → WrIs B b x w → WrOk x → B ≤ w.heap.size → PxRow w B v p.parts →
  Calls Try.prog 16 #[.pointer (some ⟨b, 0, none⟩), .agg #[.int .i64 p.kind, .int .i64 a, .string p.text, v], .int .i64 (deep : Nat)] w (RWr B b (wrExpr p deep x) w)
def wrList (ps : List Px) (deep : Nat) (x : Wr) : Option Wr := ((wrPut x [40]).bind fun y => wrParts ps deep false y).bind fun z => wrPut z [41]
theorem WrIs.gap {B b : Nat} {x : Wr} {w : World} (h : WrIs B b x w) (g : Bool) : WrIs B b { x with gap := g } (w.setCell ⟨b, 4, none⟩ (.bool g)) := IsWr.set4 h (.bool g)

theorem wrParts_cons (p : Px) (l : List Px) (deep : Nat) (more : Bool) (x : Wr) : wrParts (p :: l) deep more x = (wrExpr p (deep + 1) { x with gap := more }).bind fun y => wrParts l deep true y := by rw [wrParts]
theorem wrParts_nil (deep : Nat) (more : Bool) (x : Wr) : wrParts [] deep more x = some x := by rw [wrParts]
theorem wrExpr_mk (k : Int) (t : ByteArray) (ps : List Px) (deep : Nat) (x : Wr) : wrExpr (.mk k t ps) deep x = if k = 4 then (if t.size ≠ 0 ∨ deep = 64 then none else wrList ps deep x) else match pxSigns k t with
      | none => none
      | some s => if ps.length = 0 then wrPut x s else none := by rw [wrExpr]; rfl
theorem pxSigns_ne {k : Int} {t : ByteArray} {s : List UInt8} (h : pxSigns k t = some s) : s ≠ [] := by
  unfold pxSigns at h
  (repeat' split at h) <;> cases h
  · next h1 => intro e; unfold sxPlain at h1; rw [e] at h1; cases h1
  · simp
  · next h1 => intro e; unfold sxNum at h1; rw [e] at h1; cases h1
  · simp
mutual
theorem wrExpr_ok : ∀ (p : Px) (deep : Nat) (x y : Wr), WrOk x → wrExpr p deep x = some y → WrOk y
  | .mk k t ps, deep, x, y, hx, h => by
    rw [wrExpr_mk] at h
    split at h
    · split at h
      · cases h
      · unfold wrList at h
        cases h1 : wrPut x [40] with
        | none => rw [h1] at h; cases h
        | some x1 =>
          rw [h1] at h
          simp only [Option.bind_some] at h
          cases h2 : wrParts ps deep false x1 with
          | none => rw [h2] at h; cases h
          | some x2 =>
            rw [h2] at h
            exact wrPut_ok (by simp) (wrParts_ok ps deep false x1 x2 (wrPut_ok (by simp) hx h1) h2) h
    · split at h
      · cases h
      · next s hs =>
        split at h
        · exact wrPut_ok (pxSigns_ne hs) hx h
        · cases h
theorem wrParts_ok : ∀ (l : List Px) (deep : Nat) (more : Bool) (x y : Wr), WrOk x → wrParts l deep more x = some y → WrOk y
  | [], deep, more, x, y, hx, h => by rw [wrParts_nil] at h; cases h; exact hx
  | p :: l, deep, more, x, y, hx, h => by
    rw [wrParts_cons] at h
    cases h1 : wrExpr p (deep + 1) { x with gap := more } with
    | none => rw [h1] at h; cases h
    | some x1 =>
      rw [h1] at h
      exact wrParts_ok l deep true x1 y (wrExpr_ok p (deep + 1) { x with gap := more } x1 hx h1) h
end

set_option maxRecDepth 100000 in
set_option maxHeartbeats 3200000 in
theorem list_text (B b : Nat) (deep : Nat) (k a : Int) (t : ByteArray) (v : Value) (w : World) (ht : t.size ≠ 0) (hB : B ≤ w.heap.size) :
    Calls Try.prog 25 #[.pointer (some ⟨b, 0, none⟩), .agg #[.int .i64 k, .int .i64 a, .string t, v], .int .i64 (deep : Nat)] w (RWr B b none w) := by
  have he := sx_emp2 (Nat.pos_of_ne_zero ht)
  go_enter Try.func25, Try.ntmps25
  go_wp2_with fail
  go_ret
  exact ⟨rfl, FrW.of_below hB (below1 _ _)⟩
set_option maxRecDepth 100000 in
set_option maxHeartbeats 3200000 in
theorem list_deep (B b : Nat) (k a : Int) (v : Value) (w : World) (hB : B ≤ w.heap.size) :
    Calls Try.prog 25 #[.pointer (some ⟨b, 0, none⟩), .agg #[.int .i64 k, .int .i64 a, .string ⟨#[]⟩, v], .int .i64 64] w (RWr B b none w) := by
  go_enter Try.func25, Try.ntmps25
  go_wp2_with fail
  go_ret
  exact ⟨rfl, FrW.of_below hB (below1 _ _)⟩
set_option maxRecDepth 100000 in
set_option maxHeartbeats 3200000 in
theorem list_any (B b : Nat) (ps : List Px) (hps : ps.length ≤ 281474976710656) (ih : ∀ i (h : i < ps.length), WExpr B b (ps[i]'h)) (deep : Nat) (k a : Int) (x : Wr) (v : Value) (w : World) (hd : deep < 64) (hw : WrIs B b x w) (hok : WrOk x) (hB : B ≤ w.heap.size) (hrow : PxRow w B v ps) :
    Calls Try.prog 25 #[.pointer (some ⟨b, 0, none⟩), .agg #[.int .i64 k, .int .i64 a, .string ⟨#[]⟩, v], .int .i64 (deep : Nat)] w (RWr B b (wrList ps deep x) w) := by
  have hdi : ((deep : Int) == 64) = false := by simp; omega
  have hput := fun o => wput_any B b x ⟨#[40]⟩ (w.alloc o) (hw.below (below1 _ _)) hok (by decide) (by decide) (by simp; omega)
  obtain ⟨r, hr⟩ : ∃ r, r = wrList ps deep x := ⟨_, rfl⟩
  rw [← hr]
  unfold wrList at hr
  have e40 : (⟨#[40]⟩ : ByteArray).data.toList = [40] := rfl
  rw [e40] at hput
  have Hput := hid hput; have Hr := hid hr
  have Hrow := hid hrow
  obtain ⟨pp, cp, rfl⟩ := hrow.form
  clear hput hr hrow
  go_enter Try.func25, Try.ntmps25
  go_wp2_with fail
  refine (Hput.out _).mono ?_
  intro e w1 h1
  cases hx : wrPut x [40] with
  | none =>
    rw [hx] at h1
    obtain ⟨rfl, hb1⟩ := h1
    have Hx := hid hx; have HB := hid hb1
    clear hx hb1
    go_wp2_with fail
    go_ret
    rw [Hr.out, Hx.out]
    exact ⟨rfl, (FrW.of_below hB (below1 _ _)).trans HB.out⟩
  | some y =>
    rw [hx] at h1
    obtain ⟨rfl, hw1, hb1⟩ := h1
    have hbox : w1.heap[w.heap.size]? = some (.cells #[.int .i64 k, .int .i64 a, .string ⟨#[]⟩, .slice pp ps.length cp] 30 (0, 0)) :=
      (hb1.kept _ _ _ _ (heap_alloc_new w _) (by decide) (by decide)).trans (heap_alloc_new w _)
    have q3 : w1.cell? ⟨w.heap.size, 3, none⟩ = some (.slice pp ps.length cp) := cell_of_row w1 _ 3 _ _ (0, 0) hbox
    have hoky := wrPut_ok (by simp) hok hx
    have HW := hid hw1; have HB := hid ((FrW.of_below hB (below1 _ _)).trans hb1); have Hok := hid hoky
    have Hrow1 := hid (Hrow.out.stay HB.out.bel)
    have Hx := hid hx
    clear hx hb1 hw1 hbox hoky Hput hw hok Hrow1
    go_wp2_with fail
    go_loopw [24] (fun i wr => ∃ (j : Nat) (x' : Wr), j ≤ ps.length ∧ i = .int .i64 (j : Nat) ∧ WrIs B b x' wr ∧ WrOk x' ∧ Hid (wrParts (ps.drop j) deep (decide (0 < j)) x' = wrParts ps deep false y) ∧ Hid (FrW B w wr)) (fun i _ => ps.length - (RowKit.intOf i).toNat)
    case atStart => exact ⟨0, y, Nat.zero_le _, rfl, HW.out, Hok.out, rfl, HB⟩
    case round =>
      obtain ⟨j, x', hj, rfl, hwr, hokr, hpr, hbr⟩ := hrel
      by_cases hlt : j < ps.length
      · have hlt' : (j : Int) < (ps.length : Int) := by omega
        obtain ⟨rb, off, ai, vi, hpp, hrb, k0, k1, k2, k3, krow⟩ := (Hrow.out.stay hbr.out.bel).at j hlt
        subst hpp
        have krow' := krow
        obtain ⟨pi, ci, rfl⟩ := krow'.form
        obtain ⟨K, hK⟩ : ∃ K, K = (ps[j]'hlt).kind := ⟨_, rfl⟩
        obtain ⟨T, hT⟩ : ∃ T, T = (ps[j]'hlt).text := ⟨_, rfl⟩
        obtain ⟨n, hn⟩ : ∃ n, n = (ps[j]'hlt).parts.length := ⟨_, rfl⟩
        rw [← hK] at k0; rw [← hT] at k2; rw [← hn] at k3 krow
        have HK := hid hK; have HT := hid hT; have Hn := hid hn; have HR := hid krow
        have H4 := hid hwr
        clear hK hT hn krow krow' hwr
        go_upto_region 6 with fail
        generalize hW : World.alloc wr _ = W2
        have hb2 : Below wr.heap.size wr W2 := by rw [← hW]; exact below1 _ _
        have hbx : W2.heap[wr.heap.size]? = some (.cells #[.int .i64 K, .int .i64 ai, .string T, .slice pi n ci] 30 (0, 0)) := by rw [← hW]; exact heap_alloc_new wr _
        have hw2 := WrIs.below H4.out hb2
        have f4 := IsWr.frozen hw2 4; have c4 := IsWr.cell4 hw2
        have H5 := hid hw2; have HB2 := hid (hbr.out.trans (FrW.of_below (Nat.le_trans hB hbr.out.bel.size) hb2)); have HB2' := hid (FrW.of_below (Nat.le_trans hB hbr.out.bel.size) hb2); have Hbx := hid hbx
        clear hW hb2 hbx hw2 H4
        go_upto_region 7 with fail
        generalize hW : World.setCell W2 _ _ = W3
        have hw3 : WrIs B b { x' with gap := decide (0 < j) } W3 := by rw [← hW]; exact H5.out.gap _
        have hb3 : FrW B w W3 := by rw [← hW]; exact HB2.out.setWr H5.out 4 _
        have hbx : W3.heap[wr.heap.size]? = some (.cells #[.int .i64 K, .int .i64 ai, .string T, .slice pi n ci] 30 (0, 0)) := by
          rw [← hW]
          exact ((FrW.refl B W2).setWr H5.out 4 (.bool (decide (0 < j)))).kept _ _ _ _ Hbx.out (by decide) (by decide) |>.trans Hbx.out
        have g0 := cell_of_row W3 _ 0 _ _ (0, 0) hbx; have g1 := cell_of_row W3 _ 1 _ _ (0, 0) hbx; have g2 := cell_of_row W3 _ 2 _ _ (0, 0) hbx; have g3 := cell_of_row W3 _ 3 _ _ (0, 0) hbx
        have hrow3 : PxRow W3 B (.slice pi n ci) (ps[j]'hlt).parts := HR.out.stay (by rw [← hW]; exact (HB2'.out.setWr H5.out 4 _).bel)
        have hcall := ih j hlt (deep + 1) { x' with gap := decide (0 < j) } ai (.slice pi n ci) W3 (by omega) hw3 hokr (Nat.le_trans hB hb3.bel.size) hrow3
        have hnx : wrParts (ps.drop j) deep (decide (0 < j)) x' = (wrExpr (ps[j]'hlt) (deep + 1) { x' with gap := decide (0 < j) }).bind fun z => wrParts (ps.drop (j + 1)) deep (decide (0 < j + 1)) z := by
          rw [List.drop_eq_getElem_cons hlt, wrParts_cons, decide_eq_true (Nat.succ_pos j)]
        rw [← HK.out, ← HT.out] at hcall
        have hokn := fun z => wrExpr_ok (ps[j]'hlt) (deep + 1) { x' with gap := decide (0 < j) } z hokr
        generalize wrExpr (ps[j]'hlt) (deep + 1) { x' with gap := decide (0 < j) } = R1 at *
        have Hokn := hid hokn
        have hd1 : ((deep + 1 : Nat) : Int) = (deep : Int) + 1 := by omega
        rw [hd1] at hcall
        have Hcall := hid hcall; have Hnx := hid hnx; have HB3 := hid hb3
        clear hW hw3 hb3 hbx hrow3 hcall hnx hd1 f4 c4 H5 HB2 Hbx HB2' hokn
        go_wp2_with fail
        refine Hcall.out.mono ?_
        intro e w4 h4
        cases R1 with
        | none =>
          obtain ⟨rfl, hb4⟩ := h4
          have HB4 := hid (HB3.out.trans hb4)
          have HN := hid ((hpr.out.symm.trans Hnx.out))
          clear hb4
          go_wp2_with fail
          go_ret
          rw [Hr.out, Hx.out]
          simp only [Option.bind_some]
          rw [HN.out]
          exact ⟨rfl, HB4.out⟩
        | some z =>
          obtain ⟨rfl, hw4, hb4⟩ := h4
          have HW4 := hid hw4; have HB4 := hid (HB3.out.trans hb4)
          have HN := hid ((hpr.out.symm.trans Hnx.out).symm)
          clear hb4 hw4
          go_wp2_with fail
          go_roundw
          case rel =>
            exact ⟨j + 1, z, by omega, by go_num, HW4.out, Hokn.out z rfl, HN, HB4⟩
          case measure => (simp [RowKit.intOf] <;> omega)
      · have hje : j = ps.length := by omega
        subst hje
        have hend : wrParts ps deep false y = some x' := by
          rw [← hpr.out, List.drop_length]; rfl
        have hput := wput_any B b x' ⟨#[41]⟩ wr hwr hokr (by decide) (by decide) (Nat.le_trans hB hbr.out.bel.size)
        have e41 : (⟨#[41]⟩ : ByteArray).data.toList = [41] := rfl
        rw [e41] at hput
        have hre : r = wrPut x' [41] := by rw [Hr.out, Hx.out]; simp only [Option.bind_some]; rw [hend]; rfl
        have Hput := hid hput; have Hre := hid hre
        clear hput e41 hre hend
        go_wp2_with fail
        refine Hput.out.mono ?_
        intro e w4 h4
        have H4 := hid (RWr.pre h4 hbr.out)
        clear h4
        cases hx' : wrPut x' [41] with
        | none =>
          rw [hx'] at H4
          have H4' := H4.out
          obtain ⟨rfl, hb⟩ := H4'
          have HB := hid hb
          have Hx' := hid hx'
          clear hb hx' H4
          go_wp2_with fail
          go_ret
          rw [Hre.out, Hx'.out]
          exact ⟨rfl, HB.out⟩
        | some z =>
          rw [hx'] at H4
          have H4' := H4.out
          obtain ⟨rfl, hw4, hb⟩ := H4'
          have HB := hid hb; have HW4 := hid hw4
          have Hx' := hid hx'
          clear hb hx' hw4 H4
          go_wp2_with fail
          go_ret
          rw [Hre.out, Hx'.out]
          exact ⟨rfl, HW4.out, HB.out⟩

set_option maxRecDepth 100000 in
set_option maxHeartbeats 3200000 in
theorem expr_step (B b : Nat) (p : Px) (hsm : p.text.size ≤ 281474976710656 ∧ p.parts.length ≤ 281474976710656) (ih : ∀ i (h : i < p.parts.length), WExpr B b (p.parts[i]'h)) : WExpr B b p := by
  intro deep x a v w hd hw hok hB hrow
  obtain ⟨k, t, ps⟩ := p
  simp only [Px.kind, Px.text, Px.parts] at hsm ih hrow ⊢
  rw [wrExpr_mk]
  obtain ⟨pp, cp, rfl⟩ := hrow.form
  by_cases hk : k = 4
  · subst hk
    rw [if_pos rfl]
    have hl : ∀ o, Calls Try.prog 25 #[.pointer (some ⟨b, 0, none⟩), .agg #[.int .i64 4, .int .i64 a, .string t, .slice pp ps.length cp], .int .i64 (deep : Nat)] (w.alloc o) (RWr B b (if t.size ≠ 0 ∨ deep = 64 then none else wrList ps deep x) (w.alloc o)) := fun o => by
      by_cases ht : t.size = 0
      · by_cases h64 : deep = 64
        · subst h64
          rw [if_pos (.inr rfl)]
          obtain rfl : t = ⟨#[]⟩ := by
            have := sx_empty ht
            cases t with | mk d => cases d with | mk l => simp at this; subst this; rfl
          exact list_deep B b 4 a _ _ (by simp; omega)
        · rw [if_neg (by omega)]
          obtain rfl : t = ⟨#[]⟩ := by
            have := sx_empty ht
            cases t with | mk d => cases d with | mk l => simp at this; subst this; rfl
          exact list_any B b ps hsm.2 ih deep 4 a x _ _ (by omega) (hw.below (below1 _ _)) hok (by simp; omega) (hrow.stay ((below1 w o).mono hB))
      · rw [if_pos (.inl ht)]
        exact list_text B b deep 4 a t _ _ ht (by simp; omega)
    generalize (if t.size ≠ 0 ∨ deep = 64 then none else wrList ps deep x) = R at *
    have Hl := hid hl
    clear hl ih hrow hw
    go_enter Try.func16, Try.ntmps16
    go_wp2_with fail
    refine (Hl.out _).mono ?_
    intro e w1 h1
    have h2 := RWr.pre h1 (FrW.of_below hB (below1 _ _))
    cases R with
    | none =>
      obtain ⟨rfl, hb⟩ := h2
      go_wp2_with fail
      go_ret
      exact ⟨rfl, hb⟩
    | some z =>
      obtain ⟨rfl, hz, hb⟩ := h2
      go_wp2_with fail
      go_ret
      exact ⟨rfl, hz, hb⟩
  · rw [if_neg hk]
    have hs := fun o => signsOf_any k a t (.slice pp ps.length cp) (w.alloc o) (by omega)
    have hkn : ((k == 4) = false) := by simpa using hk
    have hp0 : ∀ (s : ByteArray) (W : World), Below w.heap.size w W → s.data.toList ≠ [] → s.size ≤ 1125899906842624 → Calls Try.prog 27 #[.pointer (some ⟨b, 0, none⟩), .string s] W (RWr B b (wrPut x s.data.toList) W) := fun s W hb h0 h1 =>
      wput_any B b x s W (hw.below hb) hok (Nat.pos_of_ne_zero fun e => h0 (sx_empty e)) h1 (Nat.le_trans hB hb.size)
    have hsz : ∀ (s : ByteArray), pxSigns k t = some s.data.toList → s.size ≤ 1125899906842624 := fun s h => by
      have hl : s.data.toList.length = s.size := Array.length_toList
      have hl2 : t.data.toList.length = t.size := Array.length_toList
      unfold pxSigns at h
      (repeat' split at h) <;> first | (cases h; done) | (injection h with h; have := congrArg List.length h; simp at this; omega)
    have hne := fun s => pxSigns_ne (k := k) (t := t) (s := s)
    obtain ⟨R0, hR0⟩ : ∃ R0, R0 = (match pxSigns k t with
      | none => none
      | some s => if ps.length = 0 then wrPut x s else none) := ⟨_, rfl⟩
    rw [← hR0]
    generalize pxSigns k t = R at *
    have HR0 := hid hR0
    clear hR0
    have Hs := hid hs; have Hp := hid hp0; have Hsz := hid hsz; have Hne := hid hne
    clear hs hp0 hsz hne ih hrow hw
    go_enter Try.func16, Try.ntmps16
    go_wp2_with fail
    refine (Hs.out _).mono ?_
    rintro e w1 ⟨u, ok, rfl, hb1, hm⟩
    have hb := (below1 w _).trans (hb1.mono (by simp : w.heap.size ≤ _))
    have hbx := (hb1.block w.heap.size (by simp)).trans (heap_alloc_new w (.cells #[.int .i64 k, .int .i64 a, .string t, .slice pp ps.length cp] 30))
    have q3 : w1.cell? ⟨w.heap.size, 3, none⟩ = some (.slice pp ps.length cp) := cell_of_row w1 _ 3 _ _ (0, 0) hbx
    have HB := hid hb
    clear hb hb1 hbx
    cases R with
    | none =>
      obtain rfl : ok = false := hm
      obtain rfl : R0 = none := HR0.out
      go_wp2_with fail
      go_ret
      exact ⟨rfl, FrW.of_below hB HB.out⟩
    | some s =>
      obtain ⟨rfl, hu⟩ := hm
      by_cases hl : ps.length = 0
      · have hput := Hp.out u w1 HB.out (by rw [hu]; exact Hne.out s rfl) (Hsz.out u (by rw [hu]))
        rw [hu] at hput
        have e0 : R0 = wrPut x s := HR0.out.trans (if_pos hl)
        rw [← e0] at hput
        have hl' : (((ps.length : Nat) : Int) == 0) = true := by simp [hl]
        have Hput := hid hput
        clear hput hu Hs Hp Hsz Hne HR0 e0
        go_wp2_with fail
        refine Hput.out.mono ?_
        intro e w2 h2
        have h3 := RWr.pre h2 (FrW.of_below hB HB.out)
        cases R0 with
        | none =>
          obtain ⟨rfl, hb3⟩ := h3
          go_wp2_with fail
          go_ret
          exact ⟨rfl, hb3⟩
        | some z =>
          obtain ⟨rfl, hz, hb3⟩ := h3
          go_wp2_with fail
          go_ret
          exact ⟨rfl, hz, hb3⟩
      · obtain rfl : R0 = none := HR0.out.trans (if_neg hl)
        have hl' : (((ps.length : Nat) : Int) == 0) = false := by simpa using hl
        clear hu Hs Hp Hsz Hne
        go_wp2_with fail
        go_ret
        exact ⟨rfl, FrW.of_below hB HB.out⟩
mutual
theorem expr_any (B b : Nat) : ∀ (p : Px), pxSmall p → WExpr B b p
  | .mk k t ps, h => by
    unfold pxSmall at h
    exact expr_step B b (.mk k t ps) ⟨h.1, h.2.1⟩ (exprs_any B b ps h.2.2)
theorem exprs_any (B b : Nat) : ∀ (l : List Px), pxSmallL l → ∀ i (h : i < l.length), WExpr B b (l[i]'h)
  | p :: l, hs, 0, _ => by unfold pxSmallL at hs; exact expr_any B b p hs.1
  | p :: l, hs, i + 1, h => by unfold pxSmallL at hs; exact exprs_any B b l hs.2 i (by simpa using h)
end
def wrStart : Wr := ⟨[], 65536, 0, false⟩
/-- what Print answers: the text, or that it can't be -/
def RPrint (r : Option Wr) (w : World) (e : Ending) (w' : World) : Prop := Below w.heap.size w w' ∧
  match r with
  | none => e = .returned (.tuple #[.string ⟨#[]⟩, .int .i64 6])
  | some y => e = .returned (.tuple #[.string (⟨y.out.toArray⟩ : ByteArray), .int .i64 0])
theorem wrPut_ne {x y : Wr} {s : List UInt8} (hs : s ≠ []) (h : wrPut x s = some y) : y.out ≠ [] := by
  unfold wrPut at h
  split at h
  · cases h
    intro e
    simp at e
    exact hs e.2.2
  · cases h
theorem wrExpr_ne {p : Px} {deep : Nat} {x y : Wr} (h : wrExpr p deep x = some y) : y.out ≠ [] := by
  obtain ⟨k, t, ps⟩ := p
  rw [wrExpr_mk] at h
  split at h
  · split at h
    · cases h
    · unfold wrList at h
      cases h1 : wrPut x [40] with
      | none => rw [h1] at h; cases h
      | some x1 =>
        rw [h1] at h
        simp only [Option.bind_some] at h
        cases h2 : wrParts ps deep false x1 with
        | none => rw [h2] at h; cases h
        | some x2 => rw [h2] at h; exact wrPut_ne (by simp) h
  · split at h
    · cases h
    · next s hs =>
      split at h
      · exact wrPut_ne (pxSigns_ne hs) h
      · cases h

set_option maxRecDepth 100000 in
set_option maxHeartbeats 3200000 in
theorem Print_any (p : Px) (a : Int) (v : Value) (w : World) (hsm : pxSmall p) (hrow : PxRow w w.heap.size v p.parts) :
    Calls Try.prog 12 #[.agg #[.int .i64 p.kind, .int .i64 a, .string p.text, v]] w (RPrint (wrExpr p 0 wrStart) w) := by
  have hex := fun W b hw hB hr => expr_any w.heap.size b p hsm 0 wrStart a v W (by omega) hw (by unfold WrOk wrStart; simp) hB hr
  have hne := fun y => wrExpr_ne (p := p) (deep := 0) (x := wrStart) (y := y)
  generalize wrExpr p 0 wrStart = R at *
  obtain ⟨k, t, ps⟩ := p
  simp only [Px.kind, Px.text, Px.parts] at hex hrow ⊢
  obtain ⟨pp, cp, rfl⟩ := hrow.form
  have Hex := hid hex; have Hrow := hid hrow; have Hne := hid hne
  clear hex hrow hne
  go_enter Try.func12, Try.ntmps12
  go_upto_region 2 with fail
  generalize hW : World.alloc (World.alloc w _) _ = W1
  have hb1 : Below w.heap.size w W1 := by rw [← hW]; exact (below1 _ _).alloc (by simp) _
  have hz1 : w.heap.size + 2 ≤ W1.heap.size := by rw [← hW]; simp
  have hbx : W1.heap[w.heap.size]? = some (.cells #[.int .i64 k, .int .i64 a, .string t, .slice pp ps.length cp] 30 (0, 0)) := by rw [← hW, heap_alloc_old _ _ (by simp)]; exact heap_alloc_new w _
  have hwr : WrIs w.heap.size (w.heap.size + 1) wrStart W1 := by
    refine .inl ⟨by omega, .slice none 0 0, ?_, World.ownsRow_nil _ _ _ _, by simp [Value.ownBlock]⟩
    rw [← hW]
    have := heap_alloc_new (w.alloc (.cells #[.int .i64 k, .int .i64 a, .string t, .slice pp ps.length cp] 30)) (.cells #[.pointer none, .slice none 0 0, .int .i64 65536, .int .u8 0, .bool false] 52)
    rwa [show (w.alloc (.cells #[.int .i64 k, .int .i64 a, .string t, .slice pp ps.length cp] 30)).heap.size = w.heap.size + 1 by simp] at this
  have hcall := Hex.out W1 (w.heap.size + 1) hwr (by omega) (Hrow.out.stay hb1)
  have g0 := cell_of_row W1 _ 0 _ _ (0, 0) hbx; have g1 := cell_of_row W1 _ 1 _ _ (0, 0) hbx; have g2 := cell_of_row W1 _ 2 _ _ (0, 0) hbx; have g3 := cell_of_row W1 _ 3 _ _ (0, 0) hbx
  have Hcall := hid hcall; have HB1 := hid hb1
  clear hW hb1 hbx hwr hcall Hex Hrow
  go_wp2_with fail
  refine Hcall.out.mono ?_
  intro e w2 h2
  cases R with
  | none =>
    obtain ⟨rfl, hb2⟩ := h2
    have HB2 := hid (HB1.out.trans hb2.bel)
    clear hb2
    go_wp2_with fail
    go_ret2
    exact ⟨HB2.out, rfl⟩
  | some y =>
    obtain ⟨rfl, hw2, hb2⟩ := h2
    have hstr := StringW w.heap.size (w.heap.size + 1) y.out _ _ _ w2 hw2 (Hne.out y rfl)
    have HB2 := hid (HB1.out.trans hb2.bel); have Hstr := hid hstr
    clear hb2 hw2 hstr
    go_wp2_with fail
    refine Hstr.out.mono ?_
    rintro e w3 ⟨rfl, hb3⟩
    have HB3 := hid (HB2.out.trans hb3)
    clear hb3
    go_wp2_with fail
    go_ret2
    exact ⟨HB3.out, rfl⟩
end Go.Proofs.Ytcpkejonpnmljaa
/- Reading on lists of bytes, places left out: rdStep, Rd; what sxRun has to do with it. -/
namespace Go.Proofs.Ytcpkejonpnmljaa
open Go.RowKit

mutual
def Ex.px : Ex → Px
  | .mk k _ t ps => .mk (k : Int) t (pxL ps)
def pxL : List Ex → List Px
  | [] => []
  | e :: l => e.px :: pxL l
end
theorem pxL_app (l m : List Ex) : pxL (l ++ m) = pxL l ++ pxL m := by
  induction l with
  | nil => simp [pxL]
  | cons a l ih => simp [pxL, ih]
def pxF (f : List Lp) : List (List Px) := f.map fun p => pxL p.2
def bz (l : List UInt8) : ByteArray := ⟨l.toArray⟩
theorem bz_list (s : ByteArray) : bz s.data.toList = s := rfl
theorem bz_size (l : List UInt8) : (bz l).size = l.length := by unfold bz; simp [ByteArray.size]

def rdStep (c : UInt8) (t : List UInt8) (f : List (List Px)) (l : List Px) : Except Nat (List UInt8 × List (List Px) × List Px) :=
  match sxSort c.toNat with
  | 0 => .error 2
  | 1 => .ok (t, f, l)
  | 2 => .ok ((c :: t).dropWhile (fun x => x != 10), f, l)
  | 3 => .ok ((c :: t).dropWhile (fun x => sxSign x.toNat), f, l ++ [.mk 1 (bz ((c :: t).takeWhile fun x => sxSign x.toNat)) []])
  | 4 => if sxNum (bz ((c :: t).takeWhile fun x => sxSign x.toNat)) then .ok ((c :: t).dropWhile (fun x => sxSign x.toNat), f, l ++ [.mk 2 (bz ((c :: t).takeWhile fun x => sxSign x.toNat)) []]) else .error 2
  | 5 => match t.dropWhile (fun x => sxQuo x.toNat) with
    | [] => .error 3
    | d :: r => if sxSort d.toNat = 5 then .ok (r, f, l ++ [.mk 1 (bz (t.takeWhile fun x => sxQuo x.toNat)) []]) else .error 2
  | 6 => if t.takeWhile (fun x => sxSign x.toNat) = [] then .error 2 else .ok (t.dropWhile (fun x => sxSign x.toNat), f, l ++ [.mk 3 (bz (t.takeWhile fun x => sxSign x.toNat)) []])
  | 7 => if f.length = 64 then .error 5 else .ok (t, f ++ [l], [])
  | _ => match f.getLast? with
    | none => .error 4
    | some y => .ok (t, f.dropLast, y ++ [.mk 4 (bz []) l])

theorem take_tw {α : Type} (p : α → Bool) (l : List α) : l.take (l.takeWhile p).length = l.takeWhile p := by
  induction l with
  | nil => rfl
  | cons a l ih => rw [List.takeWhile_cons]; split <;> simp [ih]
theorem drop_tw {α : Type} (p : α → Bool) (l : List α) : l.drop (l.takeWhile p).length = l.dropWhile p := by
  induction l with
  | nil => rfl
  | cons a l ih => rw [List.takeWhile_cons, List.dropWhile_cons]; split <;> simp [ih]
theorem ext_list (s : ByteArray) (a : Nat) : (s.extract a s.size).data.toList = s.data.toList.drop a := by
  have hl : s.data.toList.length = s.size := Array.length_toList
  simp only [ByteArray.data_extract, Array.toList_extract, List.extract_eq_take_drop]
  rw [List.take_of_length_le (by simp [hl])]
theorem ext_front (s : ByteArray) (n : Nat) : s.extract 0 n = bz (s.data.toList.take n) := by
  have : (s.extract 0 n).data.toList = s.data.toList.take n := by
    simp only [ByteArray.data_extract, Array.toList_extract, List.extract_eq_take_drop]
    simp
  rw [← this, bz_list]
theorem pxF_last (f : List Lp) : (pxF f).getLast? = f.getLast?.map fun p => pxL p.2 := by simp [pxF]
theorem pxF_drop (f : List Lp) : pxF f.dropLast = (pxF f).dropLast := by simp [pxF]
theorem pxL_one (e : Ex) : pxL [e] = [e.px] := by simp [pxL]

theorem sim (s : ByteArray) (a : Nat) (f : List Lp) (l : Lp) (c : UInt8) (t : List UInt8) (h : s.data.toList.drop a = c :: t) :
    match sxStep s a f l with
    | .error (_, e) => rdStep c t (pxF f) (pxL l.2) = .error e
    | .ok (a', f', l') => rdStep c t (pxF f) (pxL l.2) = .ok (s.data.toList.drop a', pxF f', pxL l'.2) := by
  have hl : s.data.toList.length = s.size := Array.length_toList
  have e0 : (s.extract a s.size).data.toList = c :: t := by rw [ext_list, h]
  have ht : s.data.toList.drop (a + 1) = t := by rw [← List.drop_drop, h]; rfl
  have e1 : (s.extract (a + 1) s.size).data.toList = t := by rw [ext_list, ht]
  have z1 : (s.extract (a + 1) s.size).size = t.length := by rw [← e1]; exact Array.length_toList.symm
  have hat : sxAt s a = sxSort c.toNat := by
    unfold sxAt
    have : s.data.toList.getD a 0 = c := by
      have h2 : s.data.toList[a]? = some c := by
        have := congrArg (fun x => x[0]?) h
        simpa using this
      simp only [List.getD, h2]; rfl
    rw [this]
  have dr : ∀ n, s.data.toList.drop (a + n) = (c :: t).drop n := fun n => by rw [← List.drop_drop, h]
  have dr1 : ∀ n, s.data.toList.drop (a + (1 + n)) = t.drop n := fun n => by rw [← Nat.add_assoc, ← List.drop_drop, ht]
  unfold sxStep rdStep
  simp only
  rw [hat]
  have hk := sxSort_lt c.toNat
  generalize sxSort c.toNat = k at hk ⊢
  match k, hk with
  | 0, _ => rfl
  | 1, _ =>
    simp only
    rw [ht]
  | 2, _ =>
    simp only
    rw [dr]; unfold sxLine; rw [e0, drop_tw]
  | 3, _ =>
    simp only
    rw [dr]; unfold sxLead; rw [e0, drop_tw, ext_front, e0, take_tw]
    unfold sxPut
    rw [pxL_app, pxL_one]
    simp [Ex.px, pxL]
  | 4, _ =>
    simp only
    unfold sxLead; rw [e0, ext_front, e0, take_tw]
    by_cases hn : sxNum (bz (List.takeWhile (fun c => sxSign c.toNat) (c :: t))) = true
    · rw [if_pos hn, if_pos hn]
      simp only
      rw [dr, drop_tw]
      unfold sxPut
      rw [pxL_app, pxL_one]
      simp [Ex.px, pxL]
    · rw [if_neg hn, if_neg hn]
  | 5, _ =>
    simp only
    have hld : sxLead sxQuo (s.extract (a + 1) s.size) = (t.takeWhile fun x => sxQuo x.toNat).length := by unfold sxLead; rw [e1]
    have hsp : (t.takeWhile fun x => sxQuo x.toNat) ++ (t.dropWhile fun x => sxQuo x.toNat) = t := List.takeWhile_append_dropWhile
    have hlen := congrArg List.length hsp
    rw [List.length_append] at hlen
    rw [hld, z1]
    cases hd : t.dropWhile (fun x => sxQuo x.toNat) with
    | nil =>
      rw [hd] at hlen
      rw [if_pos (by simpa using hlen)]
    | cons d r =>
      rw [hd] at hlen hsp
      rw [if_neg (by simp at hlen; omega)]
      have hh : sxHead (s.extract (a + 1) s.size) = sxSort d.toNat := by
        unfold sxHead
        rw [hld, e1]
        have : t.getD (t.takeWhile fun x => sxQuo x.toNat).length 0 = d := by
          have h2 : t[(t.takeWhile fun x => sxQuo x.toNat).length]? = some d := by
            have := congrArg (fun x => x[(t.takeWhile fun x => sxQuo x.toNat).length]?) hsp
            simp only [List.getElem?_append_right (Nat.le_refl _), Nat.sub_self, List.getElem?_cons_zero] at this
            exact this.symm
          simp only [List.getD, h2]; rfl
        rw [this]
      rw [hh]
      by_cases h5 : sxSort d.toNat = 5
      · rw [if_pos h5]
        simp only
        rw [if_pos h5]
        have e2 : s.data.toList.drop (a + (1 + (t.takeWhile fun x => sxQuo x.toNat).length + 1)) = r := by
          rw [Nat.add_assoc 1, dr1, ← List.drop_drop, drop_tw, hd]; rfl
        rw [e2, ext_front, e1, take_tw]
        unfold sxPut
        rw [pxL_app, pxL_one]
        simp [Ex.px, pxL]
      · rw [if_neg h5]
        simp only
        rw [if_neg h5]
  | 6, _ =>
    simp only
    unfold sxLead; rw [e1, ext_front, e1, take_tw]
    by_cases hn : t.takeWhile (fun x => sxSign x.toNat) = []
    · rw [if_pos (by rw [hn]; rfl), if_pos hn]
    · rw [if_neg (by simpa using hn), if_neg hn]
      simp only
      rw [dr1, drop_tw]
      unfold sxPut
      rw [pxL_app, pxL_one]
      simp [Ex.px, pxL]
  | 7, _ =>
    simp only
    have : (pxF f).length = f.length := by simp [pxF]
    rw [this]
    by_cases hn : f.length = 64
    · rw [if_pos hn, if_pos hn]
    · rw [if_neg hn, if_neg hn]
      simp only
      rw [ht]
      simp [pxF, pxL]
  | 8, _ =>
    simp only
    rw [pxF_last]
    cases hg : f.getLast? with
    | none => rfl
    | some y =>
      simp only [Option.map_some]
      rw [ht, pxF_drop]
      unfold sxPut
      rw [pxL_app, pxL_one]
      simp [Ex.px, bz]

/-- reading a list of bytes to its end, without an error -/
inductive Rd : List UInt8 → List (List Px) → List Px → List (List Px) → List Px → Prop
  | nil (f : List (List Px)) (l : List Px) : Rd [] f l f l
  | step {c : UInt8} {t r : List UInt8} {f f1 f2 : List (List Px)} {l l1 l2 : List Px} (h : rdStep c t f l = .ok (r, f1, l1)) (hr : Rd r f1 l1 f2 l2) : Rd (c :: t) f l f2 l2

theorem drop_cons {s : ByteArray} {a : Nat} (ha : a < s.size) : ∃ c t, s.data.toList.drop a = c :: t := by
  have hl : s.data.toList.length = s.size := Array.length_toList
  exact ⟨_, _, List.drop_eq_getElem_cons (by omega)⟩
theorem run_Rd (s : ByteArray) : ∀ (n a : Nat) (f : List Lp) (l : Lp) (F : List Lp) (L : Lp), SxInv s a f l → s.size - a < n → sxRun s n a f l = .ok (F, L) → Rd (s.data.toList.drop a) (pxF f) (pxL l.2) (pxF F) (pxL L.2)
  | 0, a, f, l, F, L, _, hn, _ => absurd hn (by omega)
  | n + 1, a, f, l, F, L, hi, hn, h => by
    have hl : s.data.toList.length = s.size := Array.length_toList
    unfold sxRun at h
    by_cases ha : a < s.size
    · rw [if_pos ha] at h
      obtain ⟨c, t, hd⟩ := drop_cons ha
      have hs := sim s a f l c t hd
      rw [hd]
      cases hst : sxStep s a f l with
      | error e => rw [hst] at h; cases h
      | ok r =>
        obtain ⟨a', f', l'⟩ := r
        rw [hst] at h hs
        obtain ⟨h1, h2⟩ := sxStep_ok hi ha hst
        exact .step hs (run_Rd s n a' f' l' F L h2 (by have := h2.le; omega) h)
    · rw [if_neg ha] at h
      cases h
      rw [List.drop_of_length_le (by omega)]
      exact .nil _ _
theorem Rd_run {s : ByteArray} {x : List UInt8} {f1 f2 : List (List Px)} {l1 l2 : List Px} (h : Rd x f1 l1 f2 l2) : ∀ (n a : Nat) (f : List Lp) (l : Lp), SxInv s a f l → s.data.toList.drop a = x → pxF f = f1 → pxL l.2 = l1 → s.size - a < n →
    ∃ F L, sxRun s n a f l = .ok (F, L) ∧ pxF F = f2 ∧ pxL L.2 = l2 := by
  have hl : s.data.toList.length = s.size := Array.length_toList
  induction h with
  | nil f1 l1 =>
    intro n a f l _ hx hf hl1 hn
    have ha : ¬ a < s.size := fun ha => by
      obtain ⟨c, t, hd⟩ := drop_cons ha
      rw [hx] at hd; cases hd
    match n, hn with
    | n + 1, _ =>
      refine ⟨f, l, ?_, hf, hl1⟩
      unfold sxRun; rw [if_neg ha]
  | step hst _ ih =>
    intro n a f l hi hx hf hl1 hn
    have ha : a < s.size := by
      rcases Nat.lt_or_ge a s.size with h | h
      · exact h
      · rw [List.drop_of_length_le (by omega)] at hx; cases hx
    match n, hn with
    | n + 1, hn =>
      have hs := sim s a f l _ _ hx
      rw [hf, hl1, hst] at hs
      unfold sxRun; rw [if_pos ha]
      cases hst2 : sxStep s a f l with
      | error e => obtain ⟨p, e⟩ := e; rw [hst2] at hs; cases hs
      | ok r =>
        obtain ⟨a', f', l'⟩ := r
        rw [hst2] at hs
        simp only [Except.ok.injEq, Prod.mk.injEq] at hs
        obtain ⟨g1, g2, g3⟩ := hs
        obtain ⟨h1, h2⟩ := sxStep_ok hi ha hst2
        exact ih n a' f' l' h2 g1.symm g2.symm g3.symm (by have := h2.le; omega)
theorem SxInv.start (s : ByteArray) : SxInv s 0 [] (0, []) := ⟨Nat.zero_le _, by simp, fun _ h => by simp at h, by simp⟩
/-- a text is read without an error just as the list of its bytes is -/
theorem read_Rd {s : ByteArray} {L : Lp} (h : sxRun s (s.size + 1) 0 [] (0, []) = .ok ([], L)) : Rd s.data.toList [] [] [] (pxL L.2) := by
  have := run_Rd s (s.size + 1) 0 [] (0, []) [] L (SxInv.start s) (by omega) h
  simpa [pxF, pxL] using this
theorem Rd_read {s : ByteArray} {P : List Px} (h : Rd s.data.toList [] [] [] P) : ∃ L, sxRun s (s.size + 1) 0 [] (0, []) = .ok ([], L) ∧ pxL L.2 = P := by
  obtain ⟨F, L, h1, h2, h3⟩ := Rd_run (s := s) h (s.size + 1) 0 [] (0, []) (SxInv.start s) rfl rfl (by simp [pxL]) (by omega)
  obtain rfl : F = [] := by simpa [pxF] using h2
  exact ⟨L, h1, h3⟩
end Go.Proofs.Ytcpkejonpnmljaa
/- elenchuslaw03.fixed. -/
namespace Go.Proofs.Ytcpkejonpnmljaa
open Go.RowKit Go.Lib

theorem pxL_length (l : List Ex) : (pxL l).length = l.length := by
  induction l with
  | nil => simp [pxL]
  | cons a l ih => simp [pxL, ih]
theorem pxL_get : ∀ (l : List Ex) (i : Nat) (h : i < (pxL l).length), (pxL l)[i]'h = (l[i]'(by rw [pxL_length] at h; exact h)).px
  | [], i, h => absurd h (by simp [pxL])
  | a :: l, 0, h => by simp [pxL]
  | a :: l, i + 1, h => by simp [pxL]; exact pxL_get l i _
theorem Ex.px_kind (e : Ex) : e.px.kind = (e.kind : Nat) := by cases e; simp [Ex.px, Px.kind, Ex.kind]
theorem Ex.px_text (e : Ex) : e.px.text = e.text := by cases e; simp [Ex.px, Px.text, Ex.text]
theorem Ex.px_parts (e : Ex) : e.px.parts = pxL e.parts := by cases e; simp [Ex.px, Px.parts, Ex.parts]
theorem RowAt.px {w : World} {D : Nat → Prop} {v : Value} {l : List Ex} (h : RowAt w D v l) : PxRow w w.heap.size v (pxL l) := by
  induction h with
  | nil => simp only [pxL]; exact .nil _ _
  | row b off n cap l vs hn hD h0 h1 h2 h3 hp ih =>
    cases l with
    | nil => obtain rfl : n = 0 := hn; simp only [pxL]; exact .nil _ _
    | cons e l =>
      have hb := World.block_lt_of_cell? w _ (h0 0 (by simp))
      refine .row b off n cap _ (fun i => (((e :: l)[i]?.map Ex.at_).getD 0 : Nat)) vs (by rw [hn, pxL_length]) hb (fun i hi => ?_) (fun i hi => ?_) (fun i hi => ?_) (fun i hi => ?_) (fun i hi => ?_)
      · rw [pxL_get, Ex.px_kind]; exact h0 i _
      · rw [pxL_length] at hi
        rw [h1 i hi, List.getElem?_eq_getElem hi]; rfl
      · rw [pxL_get, Ex.px_text]; exact h2 i _
      · rw [pxL_length] at hi; exact h3 i hi
      · rw [pxL_get, Ex.px_parts]; exact ih i (by rw [pxL_length] at hi; exact hi)

def fixText : ByteArray := ⟨#[40, 97, 32, 124, 98, 32, 99, 124, 32, 49, 41]⟩
def fixEx : Ex := .mk 4 0 ⟨#[]⟩ [.mk 1 1 ⟨#[97]⟩ [], .mk 1 3 ⟨#[98, 32, 99]⟩ [], .mk 2 9 ⟨#[49]⟩ []]
theorem fix1 : sxRun ⟨#[40, 97, 32, 124, 98, 32, 99, 124, 32, 49, 41]⟩ 12 0 [] (0, []) = .ok ([], (0, [fixEx])) := by kernel_rfl
theorem fix2 : sxRun ⟨#[40, 40, 41]⟩ 4 0 [] (0, []) = .ok ([(0, [])], (0, [.mk 4 1 ⟨#[]⟩ []])) := by kernel_rfl
theorem fix3 : sxRun ⟨#[41]⟩ 2 0 [] (0, []) = .error (0, 4) := by kernel_rfl
theorem fix4 : (wrExpr fixEx.px 0 wrStart).map Wr.out = some [40, 97, 32, 124, 98, 32, 99, 124, 32, 49, 41] := by kernel_rfl
theorem fix5 : pxSmall fixEx.px := by
  unfold fixEx
  simp [Ex.px, pxL, pxSmall, pxSmallL, ByteArray.size]

set_option maxRecDepth 100000 in
set_option maxHeartbeats 3200000 in
theorem fixed3_any (w : World) : Calls Try.prog 9 #[] w fun e w' => e = .returned (.bool true) ∧ Below w.heap.size w w' := by
  have r1 := Read_any ⟨#[40, 97, 32, 124, 98, 32, 99, 124, 32, 49, 41]⟩ w (by decide)
  have r2 := fun W => Read_any ⟨#[40, 40, 41]⟩ W (by decide)
  have r3 := fun W => Read_any ⟨#[41]⟩ W (by decide)
  rw [show (⟨#[40, 97, 32, 124, 98, 32, 99, 124, 32, 49, 41]⟩ : ByteArray).size + 1 = 12 from rfl, fix1] at r1
  simp only [show (⟨#[40, 40, 41]⟩ : ByteArray).size + 1 = 4 from rfl, fix2] at r2
  simp only [show (⟨#[41]⟩ : ByteArray).size + 1 = 2 from rfl, fix3] at r3
  have R1 := hid r1; have R2 := hid r2; have R3 := hid r3
  clear r1 r2 r3
  go_enter Try.func9, Try.ntmps9
  go_wp2_with fail
  refine R1.out.mono ?_
  intro e w1 h1
  unfold RAll at h1
  simp only [if_true] at h1
  obtain ⟨v, rfl, hrow, hb1⟩ := h1
  obtain ⟨b, off, cap, vp, rfl, hbl, k0, k1, k2, k3, hp⟩ : ∃ b off cap vp, v = .slice (some ⟨b, off, none⟩) 1 cap ∧ b < w1.heap.size ∧ w1.cell? ⟨b, off, none⟩ = some (.int .i64 4) ∧ w1.cell? ⟨b, off + 1, none⟩ = some (.int .i64 0) ∧ w1.cell? ⟨b, off + 2, none⟩ = some (.string ⟨#[]⟩) ∧ w1.cell? ⟨b, off + 3, none⟩ = some vp ∧ RowAt w1 (fun b => w.heap.size ≤ b) vp fixEx.parts := by
    cases hrow with
    | row b off n cap l vs hn hD h0 h1 h2 h3 hp =>
      obtain rfl : n = 1 := hn
      have g0 := h0 0 (by simp)
      simp only [Nat.zero_mul, Nat.add_zero] at g0
      refine ⟨b, off, cap, vs 0, rfl, World.block_lt_of_cell? w1 _ g0, g0, ?_, ?_, ?_, hp 0 (by simp)⟩
      · have := h1 0 (by simp); simpa [fixEx, Ex.at_] using this
      · have := h2 0 (by simp); simpa [fixEx, Ex.text] using this
      · have := h3 0 (by simp); simpa using this
  have Hpx := hid hp.px
  obtain ⟨b', off', cap', rfl, hbl', k4⟩ : ∃ b' off' cap', vp = .slice (some ⟨b', off', none⟩) 3 cap' ∧ b' < w1.heap.size ∧ w1.cell? ⟨b', off' + 4 + 1, none⟩ = some (.int .i64 3) := by
    cases hp with
    | row b off n cap l vs hn hD h0 h1 h2 h3 hp =>
      obtain rfl : n = 3 := hn
      have := h1 1 (by decide)
      have h5 : w1.cell? ⟨b, off + 4 + 1, none⟩ = some (.int .i64 3) := by simpa [fixEx, Ex.parts, Ex.at_] using this
      exact ⟨b, off, cap, rfl, World.block_lt_of_cell? w1 _ h5, h5⟩
  have HS : Hid (∀ w', Below w1.heap.size w1 w' → w'.cell? ⟨b, off, none⟩ = some (.int .i64 4) ∧ w'.cell? ⟨b, off + 1, none⟩ = some (.int .i64 0) ∧ w'.cell? ⟨b, off + 2, none⟩ = some (.string ⟨#[]⟩) ∧ w'.cell? ⟨b, off + 3, none⟩ = some (.slice (some ⟨b', off', none⟩) 3 cap') ∧ w'.cell? ⟨b', off' + 4 + 1, none⟩ = some (.int .i64 3)) := fun w' hb =>
    ⟨(hb.cell (p := ⟨b, off, none⟩) hbl).trans k0, (hb.cell (p := ⟨b, off + 1, none⟩) hbl).trans k1, (hb.cell (p := ⟨b, off + 2, none⟩) hbl).trans k2, (hb.cell (p := ⟨b, off + 3, none⟩) hbl).trans k3, (hb.cell (p := ⟨b', off' + 4 + 1, none⟩) hbl').trans k4⟩
  have HB1 := hid hb1
  clear hrow hb1 k0 k1 k2 k3 hp k4
  go_wp2_with fail
  refine (R2.out _).mono ?_
  intro e w2 h2
  unfold RAll at h2
  simp only [List.cons_ne_nil, if_false] at h2
  obtain ⟨rfl, hb2⟩ := h2
  have HB2 := hid hb2
  clear hb2
  go_wp2_with fail
  refine (R3.out _).mono ?_
  intro e w3 h3
  unfold RAll at h3
  obtain ⟨rfl, hb3⟩ := h3
  have HB3 := hid (HB2.out.trans (hb3.mono HB2.out.size))
  clear hb3 HB2
  obtain ⟨k0, k1, k2, k3, k4⟩ := HS.out w3 HB3.out
  go_wp2_with fail
  have hpr := Print_any fixEx.px 0 (.slice (some ⟨b', off', none⟩) 3 cap') w3 fix5 ((Hpx.out.stay HB3.out).mono HB3.out.size)
  rw [show fixEx.px.kind = 4 from rfl, show fixEx.px.text = ⟨#[]⟩ from rfl] at hpr
  obtain ⟨y, hy1, hy2⟩ : ∃ y, wrExpr fixEx.px 0 wrStart = some y ∧ y.out = [40, 97, 32, 124, 98, 32, 99, 124, 32, 49, 41] := by
    have := fix4
    cases h : wrExpr fixEx.px 0 wrStart with
    | none => rw [h] at this; cases this
    | some y => rw [h] at this; exact ⟨y, rfl, by simpa using this⟩
  rw [hy1] at hpr
  have Hy := hid hy2; have Hpr := hid hpr
  clear hy1 hy2 hpr
  refine Hpr.out.mono ?_
  rintro e w4 ⟨hb4, h4⟩
  simp only at h4
  rw [Hy.out] at h4
  obtain rfl := h4
  obtain ⟨k0, k1, k2, k3, k4⟩ := HS.out w4 (HB3.out.trans (hb4.mono HB3.out.size))
  have HB4 := hid (HB1.out.trans ((HB3.out.trans (hb4.mono HB3.out.size)).mono HB1.out.size))
  clear hb4
  go_wp2_with fail
  go_ret
  exact ⟨rfl, HB4.out⟩
end Go.Proofs.Ytcpkejonpnmljaa
