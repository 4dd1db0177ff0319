/- elenchuslaw01.copied: the same number in new memory. -/
import Derived.Test.YtlicmnlllappnaaDoorFew
namespace Go.Proofs.YtlicmnlllappnaaDoor
open Go.RowKit Big

theorem Pair.far {w w' : World} {g B : Nat} {t : TypeId} (h : Pair w g t) (hg : g < B) (hb : Below B w w') : Pair w' g t := by
  obtain ⟨x, p, n, c, h⟩ := h
  exact ⟨x, p, n, c, (hb.block g hg).trans h⟩
/-- 'append(v, x...)' inside a region that draws its order -/
theorem step_append_at {P : Program} {w : World} {ops : Array Oper} {o : Oper} {a : Act} {K : Act → World → Prop} {Q : Exit → Act → World → Prop} {E' : Prop} (hgd : o.guard = none) (s x : Operand) (t : TypeId)
    (ho : o.op = .call { callee := .builtin .append, args := #[s, x], argTypes := #[t, t] })
    {e : TypeId} {k : IntKind} {size : Nat} (E : Elem P t e k size) (base : Nat) (v : Value) (l : List Nat) (hs : a.eval s = v) (hown : Own w base e k v l)
    (vx : Value) (m : List Nat) (hx : a.eval x = vx) (hat : At w k vx m)
    (hlen : l.length + m.length ≤ maxLen) (hbytes : (l.length + m.length) * size ≤ 140737488355328) (hbase : base ≤ w.heap.size)
    (h : ∀ v' w', Own w' base e k v' (l ++ m) → Below base w w' → w.heap.size ≤ w'.heap.size → K (a.put o.dst v') w') :
    if Region.wanted o (yielded ops a.tmps) = true then Oper.wp P o a w K Q else E' := by
  have hw : Region.wanted o (yielded ops a.tmps) = true := by simp [Region.wanted, hgd]
  rw [if_pos hw]
  obtain ⟨i, hi, hz, hsz, hby⟩ := E.row
  obtain ⟨p, cap, rfl, h1, h2, h3, h4⟩ := hat
  cases p with
  | none =>
    obtain rfl := h3 rfl
    obtain rfl : m = [] := List.eq_nil_of_length_eq_zero (by omega)
    have hrun := run_append_owned_none (P := P) (w := w) base t o.type e i 1 E.und hi v l.length (ints k l) hown
    unfold Oper.wp
    simp [execOp, ho, resolve, invoke, builtin, hs, hx, hrun, Result.andThen]
    exact h _ _ (by rw [List.append_nil]; exact hown) (Below.refl _ _) (Nat.le_refl _)
  | some ad =>
    refine wp_append_own w s x t ho base e i (.int k 0) 1 size E.und hi hz hsz hby rfl (by decide) v l.length (ints k l) hs hown ad m.length cap (ints k m) hx (by simp [ints_length]) ?_ ?_ hlen hbytes hbase ?_
    · intro j u hj
      by_cases hjm : j < m.length
      · obtain ⟨b, off, he, hb, hc⟩ := h4 (by omega)
        cases he
        rw [Go.WideShapes.add_plain, hc j hjm]
        simpa [ints, hjm] using hj
      · rw [List.getElem?_eq_none (by rw [ints_length]; omega)] at hj; cases hj
    · intro u hu
      obtain ⟨n, _, rfl⟩ := List.mem_map.1 hu
      rfl
    · intro v' w' h5 h6 _
      refine h v' w' ?_ ((Below.refl _ _).grown h6 hbase hown.row) h6.size
      unfold Own
      rw [List.length_append, ints_append]; exact h5

def RCopied (neg : Bool) (l : List Nat) (w : World) (e : Ending) (w' : World) : Prop := ∃ p c, e = .returned (.agg #[.bool neg, .slice p l.length c]) ∧ At w' .u64 (.slice p l.length c) l ∧ Below w.heap.size w w'

set_option maxRecDepth 100000 in
set_option maxHeartbeats 800000 in
theorem copied_any (neg : Bool) (s : Value) (l : List Nat) (w : World) (ha : At w .u64 s l) (hl : l.length ≤ 1099511627776) :
    Calls Tryd.prog 11 #[.agg #[.bool neg, s]] w (RCopied neg l w) := by
  have hat := hid ha
  obtain ⟨p, c, rfl, -⟩ := ha
  go_enter Tryd.func11, Tryd.ntmps11
  go_wp2_with fail
  generalize hW : World.alloc (World.alloc w _) _ = W3
  have bw : Below w.heap.size w W3 := by rw [← hW]; exact (below1 _ _).alloc (by simp) _
  have hp : Pair W3 (w.heap.size + 1) 25 := by rw [← hW]; exact Pair.new1 ..
  have hc := two_cells (w := W3) (g := w.heap.size) (a := .bool neg) (b := .slice p l.length c) (t := 25) (by rw [← hW, heap_alloc_old _ _ (by simp)]; exact heap_alloc_new w _)
  obtain ⟨c0, c1, -, -⟩ := hc
  have z3 : w.heap.size + 2 ≤ W3.heap.size := by rw [← hW]; simp
  have bw' := hid bw
  clear hW bw
  go_region_held3 (fun w' => w'.cell? ⟨w.heap.size, 0, none⟩ = some (.bool neg) ∧ w'.cell? ⟨w.heap.size, 1, none⟩ = some (.slice p l.length c) ∧ Pair w' (w.heap.size + 1) 25)
    (first | (go_split_ands; (try dsimp only); (repeat' apply And.intro) <;> first | assumption | exact Pair.drew ‹_› | exact Pair.below ‹_› hb9 | exact Pair.below ‹_› hb8 | exact Pair.below ‹_› hb7 | exact Pair.below ‹_› hb6 | exact Pair.below ‹_› hb5 | exact Pair.below ‹_› hb4 | exact Pair.below ‹_› hb3 | exact Pair.below ‹_› hb2 | exact Pair.below ‹_› hb1 | exact (hb9.cell (by first | omega | (simp; omega) | (simp; done))).trans ‹_› | exact (hb8.cell (by first | omega | (simp; omega) | (simp; done))).trans ‹_› | exact (hb7.cell (by first | omega | (simp; omega) | (simp; done))).trans ‹_› | exact (hb6.cell (by first | omega | (simp; omega) | (simp; done))).trans ‹_› | exact (hb5.cell (by first | omega | (simp; omega) | (simp; done))).trans ‹_› | exact (hb4.cell (by first | omega | (simp; omega) | (simp; done))).trans ‹_› | exact (hb3.cell (by first | omega | (simp; omega) | (simp; done))).trans ‹_› | exact (hb2.cell (by first | omega | (simp; omega) | (simp; done))).trans ‹_› | exact (hb1.cell (by first | omega | (simp; omega) | (simp; done))).trans ‹_› | exact Pair.set1 (Pair.set0 ‹_› _) _ _ _ | exact (cell_stored _ (by first | (dsimp only; omega) | (simp; done) | (simp; omega)) _ _).trans ‹_› | exact Pair.drew (Pair.below ‹_› (below1 _ _)) | exact Pair.below ‹_› (below1 _ _) | exact Pair.far ‹_› (by omega) hb1 | exact Pair.new .. | exact Pair.new1 .. | exact Pair.new2 .. | (go_keep; done)) | (go_keep; done))
    (first
      | (refine step_append_at (by rfl) _ _ 23 (by rfl) elemNat W3.heap.size _ [] (by rfl) (World.ownsRow_made W3 #[] 0 (Nat.le_refl _) (by simp [maxLen]) rfl) _ l (by rfl) (((hat.out.below bw'.out).alloc _).drew) (by simp [maxLen]; omega) (by simp; omega) (by simp) ?_; intro v1 w1 ho1 hb1 hz1; obtain ⟨pv, cv, rfl, -⟩ := id ho1.at; have hpr := Pair.far (by go_split_ands; assumption) (by omega) hb1; obtain ⟨_, _, q0, q1, q2, q3⟩ := hpr.cells))
  go_wp2
  exact bodyPost_ret (v := .agg #[.bool neg, .slice pv l.length cv]) (by simp [results, Tryd.results11, go_sem, q0, q1]) rfl
    ⟨_, _, rfl, (by have := ho1.at.stored hpr neg pv l.length cv; simpa using this), Below.stored ((bw'.out.trans ((below1 W3 _).drew.mono (B' := w.heap.size) (by omega))).trans (hb1.mono (B' := w.heap.size) (by omega))) (by omega) _ _⟩
end Go.Proofs.YtlicmnlllappnaaDoor
