/- Texts put together: Copied, Inv, Copies, Times, RefMul, Knuth. -/
import Derived.Test.YtippcalhcnjghaaDoorParsesCardM4
import Derived.WalkKit
import Derived.Deep.RegionHeld3
/- elenchuslaw01.copied: the same number in new memory. -/
namespace Go.Proofs.YtippcalhcnjghaaDoor
open Go.RowKit Big

theorem Pair.far {w w' : World} {g B : Nat} {t : TypeId} (h : Pair w g t) (hg : g < B) (hb : Below B w w') : Pair w' g t := by
  obtain ⟨x, p, n, c, h⟩ := h
  exact ⟨x, p, n, c, (hb.block g hg).trans h⟩
/-- 'append(v, x...)' inside a region that draws its order -/
theorem step_append_at {P : Program} {w : World} {ops : Array Oper} {o : Oper} {a : Act} {K : Act → World → Prop} {Q : Exit → Act → World → Prop} {E' : Prop} (hgd : o.guard = none) (s x : Operand) (t : TypeId)
    (ho : o.op = .call { callee := .builtin .append, args := #[s, x], argTypes := #[t, t] })
    {e : TypeId} {k : IntKind} {size : Nat} (E : Elem P t e k size) (base : Nat) (v : Value) (l : List Nat) (hs : a.eval s = v) (hown : Own w base e k v l)
    (vx : Value) (m : List Nat) (hx : a.eval x = vx) (hat : At w k vx m)
    (hlen : l.length + m.length ≤ maxLen) (hbytes : (l.length + m.length) * size ≤ 140737488355328) (hbase : base ≤ w.heap.size)
    (h : ∀ v' w', Own w' base e k v' (l ++ m) → Below base w w' → w.heap.size ≤ w'.heap.size → K (a.put o.dst v') w') :
    if Region.wanted o (yielded ops a.tmps) = true then Oper.wp P o a w K Q else E' := by
  have hw : Region.wanted o (yielded ops a.tmps) = true := by simp [Region.wanted, hgd]
  rw [if_pos hw]
  obtain ⟨i, hi, hz, hsz, hby⟩ := E.row
  obtain ⟨p, cap, rfl, h1, h2, h3, h4⟩ := hat
  cases p with
  | none =>
    obtain rfl := h3 rfl
    obtain rfl : m = [] := List.eq_nil_of_length_eq_zero (by omega)
    have hrun := run_append_owned_none (P := P) (w := w) base t o.type e i 1 E.und hi v l.length (ints k l) hown
    unfold Oper.wp
    simp [execOp, ho, resolve, invoke, builtin, hs, hx, hrun, Result.andThen]
    exact h _ _ (by rw [List.append_nil]; exact hown) (Below.refl _ _) (Nat.le_refl _)
  | some ad =>
    refine wp_append_own w s x t ho base e i (.int k 0) 1 size E.und hi hz hsz hby rfl (by decide) v l.length (ints k l) hs hown ad m.length cap (ints k m) hx (by simp [ints_length]) ?_ ?_ hlen hbytes hbase ?_
    · intro j u hj
      by_cases hjm : j < m.length
      · obtain ⟨b, off, he, hb, hc⟩ := h4 (by omega)
        cases he
        rw [Go.WideShapes.add_plain, hc j hjm]
        simpa [ints, hjm] using hj
      · rw [List.getElem?_eq_none (by rw [ints_length]; omega)] at hj; cases hj
    · intro u hu
      obtain ⟨n, _, rfl⟩ := List.mem_map.1 hu
      rfl
    · intro v' w' h5 h6 _
      refine h v' w' ?_ ((Below.refl _ _).grown h6 hbase hown.row) h6.size
      unfold Own
      rw [List.length_append, ints_append]; exact h5

def RCopied (neg : Bool) (l : List Nat) (w : World) (e : Ending) (w' : World) : Prop := ∃ p c, e = .returned (.agg #[.bool neg, .slice p l.length c]) ∧ At w' .u64 (.slice p l.length c) l ∧ Below w.heap.size w w'

set_option maxRecDepth 100000 in
set_option maxHeartbeats 800000 in
theorem copied_any (neg : Bool) (s : Value) (l : List Nat) (w : World) (ha : At w .u64 s l) (hl : l.length ≤ 1099511627776) :
    Calls Tryd.prog 11 #[.agg #[.bool neg, s]] w (RCopied neg l w) := by
  have hat := hid ha
  obtain ⟨p, c, rfl, -⟩ := ha
  go_enter Tryd.func11, Tryd.ntmps11
  go_wp2_with fail
  generalize hW : World.alloc (World.alloc w _) _ = W3
  have bw : Below w.heap.size w W3 := by rw [← hW]; exact (below1 _ _).alloc (by simp) _
  have hp : Pair W3 (w.heap.size + 1) 25 := by rw [← hW]; exact Pair.new1 ..
  have hc := two_cells (w := W3) (g := w.heap.size) (a := .bool neg) (b := .slice p l.length c) (t := 25) (by rw [← hW, heap_alloc_old _ _ (by simp)]; exact heap_alloc_new w _)
  obtain ⟨c0, c1, -, -⟩ := hc
  have z3 : w.heap.size + 2 ≤ W3.heap.size := by rw [← hW]; simp
  have bw' := hid bw
  clear hW bw
  go_region_held3 (fun w' => w'.cell? ⟨w.heap.size, 0, none⟩ = some (.bool neg) ∧ w'.cell? ⟨w.heap.size, 1, none⟩ = some (.slice p l.length c) ∧ Pair w' (w.heap.size + 1) 25)
    (first | (go_split_ands; (try dsimp only); (repeat' apply And.intro) <;> first | assumption | exact Pair.drew ‹_› | exact Pair.below ‹_› hb9 | exact Pair.below ‹_› hb8 | exact Pair.below ‹_› hb7 | exact Pair.below ‹_› hb6 | exact Pair.below ‹_› hb5 | exact Pair.below ‹_› hb4 | exact Pair.below ‹_› hb3 | exact Pair.below ‹_› hb2 | exact Pair.below ‹_› hb1 | exact (hb9.cell (by first | omega | (simp; omega) | (simp; done))).trans ‹_› | exact (hb8.cell (by first | omega | (simp; omega) | (simp; done))).trans ‹_› | exact (hb7.cell (by first | omega | (simp; omega) | (simp; done))).trans ‹_› | exact (hb6.cell (by first | omega | (simp; omega) | (simp; done))).trans ‹_› | exact (hb5.cell (by first | omega | (simp; omega) | (simp; done))).trans ‹_› | exact (hb4.cell (by first | omega | (simp; omega) | (simp; done))).trans ‹_› | exact (hb3.cell (by first | omega | (simp; omega) | (simp; done))).trans ‹_› | exact (hb2.cell (by first | omega | (simp; omega) | (simp; done))).trans ‹_› | exact (hb1.cell (by first | omega | (simp; omega) | (simp; done))).trans ‹_› | exact Pair.set1 (Pair.set0 ‹_› _) _ _ _ | exact (cell_stored _ (by first | (dsimp only; omega) | (simp; done) | (simp; omega)) _ _).trans ‹_› | exact Pair.drew (Pair.below ‹_› (below1 _ _)) | exact Pair.below ‹_› (below1 _ _) | exact Pair.far ‹_› (by omega) hb1 | exact Pair.new .. | exact Pair.new1 .. | exact Pair.new2 .. | (go_keep; done)) | (go_keep; done))
    (first
      | (refine step_append_at (by rfl) _ _ 23 (by rfl) elemNat W3.heap.size _ [] (by rfl) (World.ownsRow_made W3 #[] 0 (Nat.le_refl _) (by simp [maxLen]) rfl) _ l (by rfl) (((hat.out.below bw'.out).alloc _).drew) (by simp [maxLen]; omega) (by simp; omega) (by simp) ?_; intro v1 w1 ho1 hb1 hz1; obtain ⟨pv, cv, rfl, -⟩ := id ho1.at; have hpr := Pair.far (by go_split_ands; assumption) (by omega) hb1; obtain ⟨_, _, q0, q1, q2, q3⟩ := hpr.cells))
  go_wp2
  exact bodyPost_ret (v := .agg #[.bool neg, .slice pv l.length cv]) (by simp [results, Tryd.results11, go_sem, q0, q1]) rfl
    ⟨_, _, rfl, (by have := ho1.at.stored hpr neg pv l.length cv; simpa using this), Below.stored ((bw'.out.trans ((below1 W3 _).drew.mono (B' := w.heap.size) (by omega))).trans (hb1.mono (B' := w.heap.size) (by omega))) (by omega) _ _⟩
end Go.Proofs.YtippcalhcnjghaaDoor
/- A region that draws its order, walked operation by operation under an invariant that speaks of what has come up: no branching over the orders. -/
namespace Go.Proofs.YtippcalhcnjghaaDoor

theorem count_false_set (l : List Bool) (i : Nat) (h : i < l.length) (hf : l[i] = false) : (l.set i true).count false + 1 = l.count false := by
  induction l generalizing i with
  | nil => simp at h
  | cons b l ih =>
    cases i with
    | zero => simp at hf; subst hf; simp
    | succ i =>
      have := ih i (by simpa using h) (by simpa using hf)
      cases b <;> simp [List.set_cons_succ] <;> omega

/-- edges lead to lower numbers -/
def edgesDown (md : Region.Mode) (ops : Array Oper) : Bool := (List.range ops.size).all fun i => (ops[i]?).all fun o => o.after.all fun e => !Region.binds md e || decide (e.on < i)

theorem all_listed {md : Region.Mode} {ops : Array Oper} (hd : edgesDown md ops = true) {listed : Array Bool} (hs : listed.size = ops.size) (hr : Region.ready md ops listed = []) : ∀ i, i < ops.size → listed.getD i true = true := by
  intro i
  induction i using Nat.strongRecOn with
  | _ i ih =>
    intro hi
    cases hun : listed.getD i true with
    | true => rfl
    | false =>
    have : i ∈ Region.ready md ops listed := mem_ready.2 ⟨hun, ops[i], by simp [hi], fun e he hb => by
      have h1 := List.all_eq_true.1 hd i (by simpa using hi)
      have h2 : ops[i]? = some ops[i] := by simp [hi]
      rw [h2] at h1
      simp only [Option.all_some, Array.all_eq_true_iff_forall_mem] at h1
      have hlt : e.on < i := by simpa [hb] using h1 e he
      have h4 := ih e.on hlt (by omega)
      have h5 : e.on < listed.size := by omega
      simpa [Array.getD, h5] using h4⟩
    rw [hr] at this; cases this

theorem wpAny_inv {P : Program} {ops : Array Oper} {Q : Exit → Act → World → Prop} {md : Region.Mode} (I : Array Bool → Act → World → Prop) (hd : edgesDown md ops = true)
    (hstep : ∀ listed a w, listed.size = ops.size → I listed a w → ∀ i, i ∈ Region.ready md ops listed → wpOp P ops Q i (fun a' w' => I (listed.setIfInBounds i true) a' w') a w)
    (hend : ∀ listed a w, listed.size = ops.size → I listed a w → (∀ i, i < ops.size → listed.getD i true = true) → Q .normal a w) :
    ∀ (fuel : Nat) (listed : Array Bool) (a : Act) (w : World), listed.size = ops.size → listed.toList.count false ≤ fuel → I listed a w → wpAny P md ops Q fuel listed a w := by
  intro fuel
  induction fuel with
  | zero =>
    intro listed a w hs hc hI
    have hr : Region.ready md ops listed = [] := by
      cases hr : Region.ready md ops listed with
      | nil => rfl
      | cons i is =>
        have hm : i ∈ Region.ready md ops listed := by rw [hr]; simp
        obtain ⟨hun, o, ho, -⟩ := mem_ready.1 hm
        have hi : i < listed.size := by rw [hs]; exact (Array.getElem?_eq_some_iff.1 ho).1
        have hmem : false ∈ listed.toList := by
          have : listed[i] = false := by simpa [Array.getD, hi] using hun
          rw [← this]; simp
        have := List.count_pos_iff.2 hmem
        omega
    exact ⟨hr, hend _ _ _ hs hI (all_listed hd hs hr)⟩
  | succ fuel ih =>
    intro listed a w hs hc hI
    refine ⟨fun hr => hend _ _ _ hs hI (all_listed hd hs hr), fun i hi => ?_⟩
    obtain ⟨hun, o, ho, -⟩ := mem_ready.1 hi
    have hil : i < listed.size := by rw [hs]; exact (Array.getElem?_eq_some_iff.1 ho).1
    have hf : listed.toList[i] = false := by simpa [Array.getD, hil] using hun
    have hcount := count_false_set listed.toList i (by simpa using hil) hf
    refine wpOp_mono (fun a' w' h => ih _ a' w' (by simpa using hs) ?_ h) (hstep listed a w hs hI i hi)
    simp only [Array.toList_setIfInBounds]
    omega

/-- The invariant rule at a region: it holds at the beginning with nothing listed. -/
theorem wp_region_inv {P : Program} {ops : Array Oper} {Q : Exit → Act → World → Prop} {id : Nat} {a : Act} {w : World} (I : Array Bool → Act → World → Prop) (hm : P.follows .mixedOrders = true) (hd : edgesDown .any ops = true)
    (h0 : I (Array.replicate ops.size false) a w.drew)
    (hstep : ∀ i o, ops[i]? = some o → ∀ listed a w, listed.size = ops.size → I listed a w → listed.getD i true = false → (∀ e ∈ o.after, Region.binds .any e = true → listed.getD e.on false = true) →
      ∀ K : Act → World → Prop, Shut (∀ a w, I (listed.setIfInBounds i true) a w → K a w) → if Region.wanted o (yielded ops a.tmps) = true then Oper.wp P o a w K Q else K (a.put o.dst undef) w)
    (hend : ∀ listed a w, listed.size = ops.size → I listed a w → (∀ i, i < ops.size → listed.getD i true = true) → Q .normal a w) : (Code.region id ops true).wp P Q a w := by
  refine wp_region_any hm (wpAny_inv I hd ?_ hend ops.size _ a w.drew (by simp) (by simp) h0)
  intro listed a w hs hI i hi
  obtain ⟨hun, o, ho, hall⟩ := mem_ready.1 hi
  exact wpOp_step ho (fun K hK => hstep i o ho listed a w hs hI hun hall K hK)

/-- six slots set -/
def put6 (a : Act) (d1 d2 d3 d4 d5 d6 : Tmp) (v1 v2 v3 v4 v5 v6 : Value) : Act := (((((a.put (some d1) v1).put (some d2) v2).put (some d3) v3).put (some d4) v4).put (some d5) v5).put (some d6) v6
/-- the rule with six slots that vary -/
theorem wp_region_inv6 {P : Program} {ops : Array Oper} {Q : Exit → Act → World → Prop} {id : Nat} {a0 : Act} {w : World} (d1 d2 d3 d4 d5 d6 : Tmp) (v1 v2 v3 v4 v5 v6 : Value)
    (J : Array Bool → Value → Value → Value → Value → Value → Value → World → Prop) (hm : P.follows .mixedOrders = true) (hd : edgesDown .any ops = true)
    (he : a0 = put6 a0 d1 d2 d3 d4 d5 d6 v1 v2 v3 v4 v5 v6) (h0 : J (Array.replicate ops.size false) v1 v2 v3 v4 v5 v6 w.drew)
    (hstep : ∀ i o, ops[i]? = some o → ∀ listed s1 s2 s3 s4 s5 s6 w, listed.size = ops.size → J listed s1 s2 s3 s4 s5 s6 w → listed.getD i false = false → (∀ e ∈ o.after, Region.binds .any e = true → listed.getD e.on false = true) →
      ∀ K : Act → World → Prop, Shut (∀ t1 t2 t3 t4 t5 t6 w, J (listed.setIfInBounds i true) t1 t2 t3 t4 t5 t6 w → K (put6 a0 d1 d2 d3 d4 d5 d6 t1 t2 t3 t4 t5 t6) w) →
      if Region.wanted o (yielded ops (put6 a0 d1 d2 d3 d4 d5 d6 s1 s2 s3 s4 s5 s6).tmps) = true then Oper.wp P o (put6 a0 d1 d2 d3 d4 d5 d6 s1 s2 s3 s4 s5 s6) w K Q else K ((put6 a0 d1 d2 d3 d4 d5 d6 s1 s2 s3 s4 s5 s6).put o.dst undef) w)
    (hend : ∀ listed s1 s2 s3 s4 s5 s6 w, listed.size = ops.size → J listed s1 s2 s3 s4 s5 s6 w → (∀ i, i < ops.size → listed.getD i true = true) → Q .normal (put6 a0 d1 d2 d3 d4 d5 d6 s1 s2 s3 s4 s5 s6) w) : (Code.region id ops true).wp P Q a0 w := by
  refine wp_region_inv (fun L a w => ∃ s1 s2 s3 s4 s5 s6, a = put6 a0 d1 d2 d3 d4 d5 d6 s1 s2 s3 s4 s5 s6 ∧ J L s1 s2 s3 s4 s5 s6 w) hm hd ⟨_, _, _, _, _, _, he, h0⟩ ?_ ?_
  · rintro i o ho L a w hs ⟨s1, s2, s3, s4, s5, s6, rfl, hJ⟩ hun hall K hK
    refine hstep i o ho L s1 s2 s3 s4 s5 s6 w hs hJ ?_ hall K (fun t1 t2 t3 t4 t5 t6 w h => hK.out _ _ ⟨_, _, _, _, _, _, rfl, h⟩)
    by_cases hi : i < L.size
    · simpa [Array.getD, hi] using hun
    · simp [Array.getD, hi]
  · rintro L a w hs ⟨s1, s2, s3, s4, s5, s6, rfl, hJ⟩ hall
    exact hend L s1 s2 s3 s4 s5 s6 w hs hJ hall

end Go.Proofs.YtippcalhcnjghaaDoor
/- 'x, y := copied(a), copied(b)': what holds of the frame and the world, whatever has come up of the statement. -/
namespace Go.Proofs.YtippcalhcnjghaaDoor
open Go.RowKit Big

theorem Two.drew {w : World} {g : Nat} {a b c d : Value} (h : Two w g a b c d) : Two w.drew g a b c d := ⟨h.c00, h.c01, h.c10, h.c11, h.lt⟩
theorem Two.set {w : World} {g : Nat} {a b c d : Value} (h : Two w g a b c d) (x j : Nat) (u : Value) (hx : g + 1 < x) : Two (w.setCell ⟨x, j, none⟩ u) g a b c d :=
  ⟨(World.cell?_of_block (w := w) (Below.heap_setCell w _ u g (by show g ≠ x; omega))).trans h.c00, (World.cell?_of_block (w := w) (Below.heap_setCell w _ u g (by show g ≠ x; omega))).trans h.c01,
   (World.cell?_of_block (w := w) (Below.heap_setCell w _ u (g + 1) (by show g + 1 ≠ x; omega))).trans h.c10, (World.cell?_of_block (w := w) (Below.heap_setCell w _ u (g + 1) (by show g + 1 ≠ x; omega))).trans h.c11, by simpa [World.setCell] using h.lt⟩
theorem four_cells {w : World} {g : Nat} {a b c d : Value} {t : TypeId} (h : w.heap[g]? = some (.cells #[a, b, c, d] t (0, 0))) :
    w.cell? ⟨g, 0, none⟩ = some a ∧ w.cell? ⟨g, 1, none⟩ = some b ∧ w.cell? ⟨g, 2, none⟩ = some c ∧ w.cell? ⟨g, 3, none⟩ = some d :=
  ⟨by rw [cell_of_row w g 0 _ t (0, 0) h]; rfl, by rw [cell_of_row w g 1 _ t (0, 0) h]; rfl, by rw [cell_of_row w g 2 _ t (0, 0) h]; rfl, by rw [cell_of_row w g 3 _ t (0, 0) h]; rfl⟩

theorem Below.go {u w w' : World} (hb : Below w.heap.size w w') (h : Below u.heap.size u w) : Below u.heap.size u w' := h.trans (hb.mono h.size)
/-- a value is a number's copy -/
def Cop (w : World) (n : Bool) (l : List Nat) (v : Value) : Prop := ∃ q k, v = .agg #[.bool n, .slice q l.length k] ∧ At w .u64 (.slice q l.length k) l
theorem Cop.below {w w' : World} {n : Bool} {l : List Nat} {v : Value} (h : Cop w n l v) (hb : Below w.heap.size w w') : Cop w' n l v := by
  obtain ⟨q, k, rfl, ha⟩ := h
  exact ⟨q, k, rfl, ha.below hb⟩
/-- a pointer to a variable of a number, from block B on -/
def VarAt (w : World) (B : Nat) (v : Value) : Prop := ∃ g, v = .pointer (some ⟨g, 0, none⟩) ∧ Pair w g 25 ∧ B ≤ g
theorem VarAt.below {w w' : World} {B : Nat} {v : Value} (h : VarAt w B v) (hb : Below w.heap.size w w') : VarAt w' B v := by
  obtain ⟨g, rfl, hp, hB⟩ := h
  exact ⟨g, rfl, hp.below hb, hB⟩
/-- .. which holds the number's copy -/
def Holds (w : World) (n : Bool) (l : List Nat) (v : Value) : Prop :=
  ∃ g q k, v = .pointer (some ⟨g, 0, none⟩) ∧ w.heap[g]? = some (.cells #[.bool n, .slice q l.length k] 25 (0, 0)) ∧ At w .u64 (.slice q l.length k) l

structure C2 (g0 : Nat) (n0 n1 : Bool) (p0 p1 : Option Addr) (c0 c1 : Nat) (l0 l1 : List Nat) (B : Nat) (u : World) (L : Array Bool) (s5 s6 s15 s16 s17 s18 : Value) (w : World) : Prop where
  two : Two w g0 (.bool n0) (.slice p0 l0.length c0) (.bool n1) (.slice p1 l1.length c1)
  low : g0 + 2 ≤ B
  bel : Below B u w
  sz : B ≤ w.heap.size
  a0 : At w .u64 (.slice p0 l0.length c0) l0
  a1 : At w .u64 (.slice p1 l1.length c1) l1
  f0 : L.getD 0 false = true → s15 = .agg #[.bool n0, .slice p0 l0.length c0]
  f1 : L.getD 1 false = true → Cop w n0 l0 s16
  f2 : L.getD 2 false = true → s17 = .agg #[.bool n1, .slice p1 l1.length c1]
  f3 : L.getD 3 false = true → Cop w n1 l1 s18
  f4 : L.getD 4 false = true → VarAt w B s5
  f5 : L.getD 5 false = true → VarAt w B s6
  f45 : L.getD 4 false = true → L.getD 5 false = true → s5 ≠ s6
  f6 : L.getD 6 false = true → Holds w n0 l0 s5
  f7 : L.getD 7 false = true → Holds w n1 l1 s6
  d6 : L.getD 6 false = true → L.getD 4 false = true ∧ L.getD 5 false = true
  d7 : L.getD 7 false = true → L.getD 6 false = true

section
variable {g0 : Nat} {n0 n1 : Bool} {p0 p1 : Option Addr} {c0 c1 : Nat} {l0 l1 : List Nat} {B : Nat} {u : World} {L : Array Bool} {s5 s6 s15 s16 s17 s18 : Value} {w : World}
theorem setD {L : Array Bool} {i j : Nat} (h : i ≠ j) (hh : (L.setIfInBounds i true).getD j false = true) : L.getD j false = true := by rwa [getD_set_ne false h] at hh
theorem setUp {L : Array Bool} {i j : Nat} (h : L.getD j false = true) : (L.setIfInBounds i true).getD j false = true := getD_set_true h
theorem C2.load0 (h : C2 g0 n0 n1 p0 p1 c0 c1 l0 l1 B u L s5 s6 s15 s16 s17 s18 w) : C2 g0 n0 n1 p0 p1 c0 c1 l0 l1 B u (L.setIfInBounds 0 true) s5 s6 (.agg #[.bool n0, .slice p0 l0.length c0]) s16 s17 s18 w :=
  { h with
    f0 := fun _ => rfl
    f1 := fun hj => h.f1 (setD (by decide) hj)
    f2 := fun hj => h.f2 (setD (by decide) hj)
    f3 := fun hj => h.f3 (setD (by decide) hj)
    f4 := fun hj => h.f4 (setD (by decide) hj)
    f5 := fun hj => h.f5 (setD (by decide) hj)
    f45 := fun hj hk => h.f45 (setD (by decide) hj) (setD (by decide) hk)
    f6 := fun hj => h.f6 (setD (by decide) hj)
    f7 := fun hj => h.f7 (setD (by decide) hj)
    d6 := fun hj => ⟨setUp (h.d6 (setD (by decide) hj)).1, setUp (h.d6 (setD (by decide) hj)).2⟩
    d7 := fun hj => setUp (h.d7 (setD (by decide) hj)) }
theorem C2.load2 (h : C2 g0 n0 n1 p0 p1 c0 c1 l0 l1 B u L s5 s6 s15 s16 s17 s18 w) : C2 g0 n0 n1 p0 p1 c0 c1 l0 l1 B u (L.setIfInBounds 2 true) s5 s6 s15 s16 (.agg #[.bool n1, .slice p1 l1.length c1]) s18 w :=
  { h with
    f0 := fun hj => h.f0 (setD (by decide) hj)
    f1 := fun hj => h.f1 (setD (by decide) hj)
    f2 := fun _ => rfl
    f3 := fun hj => h.f3 (setD (by decide) hj)
    f4 := fun hj => h.f4 (setD (by decide) hj)
    f5 := fun hj => h.f5 (setD (by decide) hj)
    f45 := fun hj hk => h.f45 (setD (by decide) hj) (setD (by decide) hk)
    f6 := fun hj => h.f6 (setD (by decide) hj)
    f7 := fun hj => h.f7 (setD (by decide) hj)
    d6 := fun hj => ⟨setUp (h.d6 (setD (by decide) hj)).1, setUp (h.d6 (setD (by decide) hj)).2⟩
    d7 := fun hj => setUp (h.d7 (setD (by decide) hj)) }
theorem Holds.below {w w' : World} {n : Bool} {l : List Nat} {v : Value} (h : Holds w n l v) (hb : Below w.heap.size w w') : Holds w' n l v := by
  obtain ⟨g, q, k, rfl, hg, ha⟩ := h
  exact ⟨g, q, k, rfl, (hb.block g (Array.getElem?_eq_some_iff.1 hg).1).trans hg, ha.below hb⟩
theorem C2.call1 (h : C2 g0 n0 n1 p0 p1 c0 c1 l0 l1 B u L s5 s6 s15 s16 s17 s18 w) {w' : World} {v : Value} (hb : Below w.heap.size w w') (hv : Cop w' n0 l0 v) :
    C2 g0 n0 n1 p0 p1 c0 c1 l0 l1 B u (L.setIfInBounds 1 true) s5 s6 s15 v s17 s18 w' :=
  { two := h.two.below hb
    low := h.low
    bel := h.bel.trans (hb.mono h.sz)
    sz := Nat.le_trans h.sz hb.size
    a0 := h.a0.below hb
    a1 := h.a1.below hb
    f0 := fun hj => h.f0 (setD (by decide) hj)
    f1 := fun _ => hv
    f2 := fun hj => h.f2 (setD (by decide) hj)
    f3 := fun hj => (h.f3 (setD (by decide) hj)).below hb
    f4 := fun hj => (h.f4 (setD (by decide) hj)).below hb
    f5 := fun hj => (h.f5 (setD (by decide) hj)).below hb
    f45 := fun hj hk => h.f45 (setD (by decide) hj) (setD (by decide) hk)
    f6 := fun hj => (h.f6 (setD (by decide) hj)).below hb
    f7 := fun hj => (h.f7 (setD (by decide) hj)).below hb
    d6 := fun hj => ⟨setUp (h.d6 (setD (by decide) hj)).1, setUp (h.d6 (setD (by decide) hj)).2⟩
    d7 := fun hj => setUp (h.d7 (setD (by decide) hj)) }
theorem C2.call3 (h : C2 g0 n0 n1 p0 p1 c0 c1 l0 l1 B u L s5 s6 s15 s16 s17 s18 w) {w' : World} {v : Value} (hb : Below w.heap.size w w') (hv : Cop w' n1 l1 v) :
    C2 g0 n0 n1 p0 p1 c0 c1 l0 l1 B u (L.setIfInBounds 3 true) s5 s6 s15 s16 s17 v w' :=
  { two := h.two.below hb
    low := h.low
    bel := h.bel.trans (hb.mono h.sz)
    sz := Nat.le_trans h.sz hb.size
    a0 := h.a0.below hb
    a1 := h.a1.below hb
    f0 := fun hj => h.f0 (setD (by decide) hj)
    f1 := fun hj => (h.f1 (setD (by decide) hj)).below hb
    f2 := fun hj => h.f2 (setD (by decide) hj)
    f3 := fun _ => hv
    f4 := fun hj => (h.f4 (setD (by decide) hj)).below hb
    f5 := fun hj => (h.f5 (setD (by decide) hj)).below hb
    f45 := fun hj hk => h.f45 (setD (by decide) hj) (setD (by decide) hk)
    f6 := fun hj => (h.f6 (setD (by decide) hj)).below hb
    f7 := fun hj => (h.f7 (setD (by decide) hj)).below hb
    d6 := fun hj => ⟨setUp (h.d6 (setD (by decide) hj)).1, setUp (h.d6 (setD (by decide) hj)).2⟩
    d7 := fun hj => setUp (h.d7 (setD (by decide) hj)) }
theorem VarAt.ne {w : World} {v : Value} {B : Nat} (h : VarAt w B v) : v ≠ .pointer (some ⟨w.heap.size, 0, none⟩) := by
  obtain ⟨g, rfl, hp, -⟩ := h
  intro he
  have hl := hp.lt
  injection he with he
  injection he with he
  injection he with he
  omega
theorem C2.alloc4 (h : C2 g0 n0 n1 p0 p1 c0 c1 l0 l1 B u L s5 s6 s15 s16 s17 s18 w) (hu : L.getD 4 false = false) :
    C2 g0 n0 n1 p0 p1 c0 c1 l0 l1 B u (L.setIfInBounds 4 true) (.pointer (some ⟨w.heap.size, 0, none⟩)) s6 s15 s16 s17 s18 (w.alloc (.cells #[.bool false, .slice none 0 0] 25)) :=
  have hb := below1 w (.cells #[.bool false, .slice none 0 0] 25)
  { two := h.two.below hb
    low := h.low
    bel := h.bel.trans (hb.mono h.sz)
    sz := Nat.le_trans h.sz hb.size
    a0 := h.a0.below hb
    a1 := h.a1.below hb
    f0 := fun hj => h.f0 (setD (by decide) hj)
    f1 := fun hj => (h.f1 (setD (by decide) hj)).below hb
    f2 := fun hj => h.f2 (setD (by decide) hj)
    f3 := fun hj => (h.f3 (setD (by decide) hj)).below hb
    f4 := fun _ => ⟨_, rfl, Pair.new .., h.sz⟩
    f5 := fun hj => (h.f5 (setD (by decide) hj)).below hb
    f45 := fun _ hk => ((h.f5 (setD (by decide) hk)).ne).symm
    f6 := fun hj => by have := (h.d6 (setD (by decide) hj)).1; rw [hu] at this; cases this
    f7 := fun hj => by have := (h.d6 (h.d7 (setD (by decide) hj))).1; rw [hu] at this; cases this
    d6 := fun hj => ⟨setUp (h.d6 (setD (by decide) hj)).1, setUp (h.d6 (setD (by decide) hj)).2⟩
    d7 := fun hj => setUp (h.d7 (setD (by decide) hj)) }
theorem C2.alloc5 (h : C2 g0 n0 n1 p0 p1 c0 c1 l0 l1 B u L s5 s6 s15 s16 s17 s18 w) (hu : L.getD 5 false = false) :
    C2 g0 n0 n1 p0 p1 c0 c1 l0 l1 B u (L.setIfInBounds 5 true) s5 (.pointer (some ⟨w.heap.size, 0, none⟩)) s15 s16 s17 s18 (w.alloc (.cells #[.bool false, .slice none 0 0] 25)) :=
  have hb := below1 w (.cells #[.bool false, .slice none 0 0] 25)
  { two := h.two.below hb
    low := h.low
    bel := h.bel.trans (hb.mono h.sz)
    sz := Nat.le_trans h.sz hb.size
    a0 := h.a0.below hb
    a1 := h.a1.below hb
    f0 := fun hj => h.f0 (setD (by decide) hj)
    f1 := fun hj => (h.f1 (setD (by decide) hj)).below hb
    f2 := fun hj => h.f2 (setD (by decide) hj)
    f3 := fun hj => (h.f3 (setD (by decide) hj)).below hb
    f4 := fun hj => (h.f4 (setD (by decide) hj)).below hb
    f5 := fun _ => ⟨_, rfl, Pair.new .., h.sz⟩
    f45 := fun hj _ => (h.f4 (setD (by decide) hj)).ne
    f6 := fun hj => by have := (h.d6 (setD (by decide) hj)).2; rw [hu] at this; cases this
    f7 := fun hj => by have := (h.d6 (h.d7 (setD (by decide) hj))).2; rw [hu] at this; cases this
    d6 := fun hj => ⟨setUp (h.d6 (setD (by decide) hj)).1, setUp (h.d6 (setD (by decide) hj)).2⟩
    d7 := fun hj => setUp (h.d7 (setD (by decide) hj)) }
theorem Cop.stored {w : World} {n : Bool} {l : List Nat} {v : Value} (h : Cop w n l v) {g : Nat} {t : TypeId} (hp : Pair w g t) (x : Bool) (p : Option Addr) (m c : Nat) :
    Cop ((w.setCell ⟨g, 0, none⟩ (.bool x)).setCell ⟨g, 1, none⟩ (.slice p m c)) n l v := by
  obtain ⟨q, k, rfl, ha⟩ := h
  exact ⟨q, k, rfl, ha.stored hp x p m c⟩
theorem Pair.apart {w : World} {g g' : Nat} {t : TypeId} (h : Pair w g t) (hne : g ≠ g') (u u' : Value) : Pair ((w.setCell ⟨g', 0, none⟩ u).setCell ⟨g', 1, none⟩ u') g t := by
  obtain ⟨x, p, n, c, h⟩ := h
  exact ⟨x, p, n, c, ((Below.heap_setCell _ _ _ _ hne).trans (Below.heap_setCell _ _ _ _ hne)).trans h⟩
theorem Pair.self {w : World} {g : Nat} {t : TypeId} (h : Pair w g t) (x : Bool) (p : Option Addr) (n c : Nat) : Pair ((w.setCell ⟨g, 0, none⟩ (.bool x)).setCell ⟨g, 1, none⟩ (.slice p n c)) g t := (h.set0 x).set1 p n c
theorem VarAt.stored {w : World} {B : Nat} {v : Value} (h : VarAt w B v) {g : Nat} (hp : Pair w g 25) (x : Bool) (p : Option Addr) (n c : Nat) : VarAt ((w.setCell ⟨g, 0, none⟩ (.bool x)).setCell ⟨g, 1, none⟩ (.slice p n c)) B v := by
  obtain ⟨g', rfl, hp', hB⟩ := h
  refine ⟨g', rfl, ?_, hB⟩
  by_cases he : g' = g
  · subst he; exact hp'.self x p n c
  · exact hp'.apart he _ _
theorem Pair.put {w : World} {g : Nat} {t : TypeId} (h : Pair w g t) (x : Bool) (p : Option Addr) (n c : Nat) : ((w.setCell ⟨g, 0, none⟩ (.bool x)).setCell ⟨g, 1, none⟩ (.slice p n c)).heap[g]? = some (.cells #[.bool x, .slice p n c] t (0, 0)) := by
  obtain ⟨y, p', n', c', h⟩ := h
  have h1 := heap_setCell_same w g 0 _ t (.bool x) h
  exact heap_setCell_same _ g 1 _ t (.slice p n c) h1
theorem size_stored (w : World) (g : Nat) (u u' : Value) : ((w.setCell ⟨g, 0, none⟩ u).setCell ⟨g, 1, none⟩ u').heap.size = w.heap.size := by simp [World.setCell]
theorem C2.store6 (h : C2 g0 n0 n1 p0 p1 c0 c1 l0 l1 B u L s5 s6 s15 s16 s17 s18 w) (h4 : L.getD 4 false = true) (h5 : L.getD 5 false = true) (hu : L.getD 6 false = false) {g : Nat} {q : Option Addr} {k : Nat}
    (e5 : s5 = .pointer (some ⟨g, 0, none⟩)) (hp : Pair w g 25) (hB : B ≤ g) (ha : At w .u64 (.slice q l0.length k) l0) :
    C2 g0 n0 n1 p0 p1 c0 c1 l0 l1 B u (L.setIfInBounds 6 true) s5 s6 s15 s16 s17 s18 ((w.setCell ⟨g, 0, none⟩ (.bool n0)).setCell ⟨g, 1, none⟩ (.slice q l0.length k)) :=
  { two := (h.two.set g 0 _ (by have := h.low; omega)).set g 1 _ (by have := h.low; omega)
    low := h.low
    bel := Below.stored h.bel hB _ _
    sz := by rw [size_stored]; exact h.sz
    a0 := h.a0.stored hp ..
    a1 := h.a1.stored hp ..
    f0 := fun hj => h.f0 (setD (by decide) hj)
    f1 := fun hj => (h.f1 (setD (by decide) hj)).stored hp ..
    f2 := fun hj => h.f2 (setD (by decide) hj)
    f3 := fun hj => (h.f3 (setD (by decide) hj)).stored hp ..
    f4 := fun hj => (h.f4 (setD (by decide) hj)).stored hp ..
    f5 := fun hj => (h.f5 (setD (by decide) hj)).stored hp ..
    f45 := fun hj hk => h.f45 (setD (by decide) hj) (setD (by decide) hk)
    f6 := fun _ => ⟨g, q, k, e5, hp.put .., ha.stored hp ..⟩
    f7 := fun hj => by have := h.d7 (setD (by decide) hj); rw [hu] at this; cases this
    d6 := fun _ => ⟨setUp h4, setUp h5⟩
    d7 := fun hj => setUp (h.d7 (setD (by decide) hj)) }
theorem C2.store7 (h : C2 g0 n0 n1 p0 p1 c0 c1 l0 l1 B u L s5 s6 s15 s16 s17 s18 w) (h6 : L.getD 6 false = true) {g : Nat} {q : Option Addr} {k : Nat}
    (e6 : s6 = .pointer (some ⟨g, 0, none⟩)) (hp : Pair w g 25) (hB : B ≤ g) (ha : At w .u64 (.slice q l1.length k) l1) :
    C2 g0 n0 n1 p0 p1 c0 c1 l0 l1 B u (L.setIfInBounds 7 true) s5 s6 s15 s16 s17 s18 ((w.setCell ⟨g, 0, none⟩ (.bool n1)).setCell ⟨g, 1, none⟩ (.slice q l1.length k)) :=
  { two := (h.two.set g 0 _ (by have := h.low; omega)).set g 1 _ (by have := h.low; omega)
    low := h.low
    bel := Below.stored h.bel hB _ _
    sz := by rw [size_stored]; exact h.sz
    a0 := h.a0.stored hp ..
    a1 := h.a1.stored hp ..
    f0 := fun hj => h.f0 (setD (by decide) hj)
    f1 := fun hj => (h.f1 (setD (by decide) hj)).stored hp ..
    f2 := fun hj => h.f2 (setD (by decide) hj)
    f3 := fun hj => (h.f3 (setD (by decide) hj)).stored hp ..
    f4 := fun hj => (h.f4 (setD (by decide) hj)).stored hp ..
    f5 := fun hj => (h.f5 (setD (by decide) hj)).stored hp ..
    f45 := fun hj hk => h.f45 (setD (by decide) hj) (setD (by decide) hk)
    f6 := fun hj => by
      have hd := h.d6 h6
      have hne := h.f45 hd.1 hd.2
      obtain ⟨g', q', k', e', hg', ha'⟩ := h.f6 h6
      have hgg : g' ≠ g := by rintro rfl; exact hne (e'.trans e6.symm)
      exact ⟨g', q', k', e', ((Below.heap_setCell _ _ _ _ hgg).trans (Below.heap_setCell _ _ _ _ hgg)).trans hg', ha'.stored hp ..⟩
    f7 := fun _ => ⟨g, q, k, e6, hp.put .., ha.stored hp ..⟩
    d6 := fun _ => ⟨setUp (h.d6 h6).1, setUp (h.d6 h6).2⟩
    d7 := fun _ => setUp h6 }
/-- all has come up -/
structure Done2 (g0 : Nat) (n0 n1 : Bool) (p0 p1 : Option Addr) (c0 c1 : Nat) (l0 l1 : List Nat) (B : Nat) (u : World) (s5 s6 : Value) (w : World) : Prop where
  two : Two w g0 (.bool n0) (.slice p0 l0.length c0) (.bool n1) (.slice p1 l1.length c1)
  bel : Below B u w
  sz : B ≤ w.heap.size
  a0 : At w .u64 (.slice p0 l0.length c0) l0
  a1 : At w .u64 (.slice p1 l1.length c1) l1
  hx : Holds w n0 l0 s5
  hy : Holds w n1 l1 s6
theorem C2.done (h : C2 g0 n0 n1 p0 p1 c0 c1 l0 l1 B u L s5 s6 s15 s16 s17 s18 w) (h6 : L.getD 6 false = true) (h7 : L.getD 7 false = true) : Done2 g0 n0 n1 p0 p1 c0 c1 l0 l1 B u s5 s6 w :=
  { h with hx := h.f6 h6, hy := h.f7 h7 }
theorem C2.start {g0 : Nat} {n0 n1 : Bool} {p0 p1 : Option Addr} {c0 c1 : Nat} {l0 l1 : List Nat} {w : World} {s5 s6 s15 s16 s17 s18 : Value} (ht : Two w g0 (.bool n0) (.slice p0 l0.length c0) (.bool n1) (.slice p1 l1.length c1))
    (ha : At w .u64 (.slice p0 l0.length c0) l0) (hb : At w .u64 (.slice p1 l1.length c1) l1) : C2 g0 n0 n1 p0 p1 c0 c1 l0 l1 w.heap.size w (Array.replicate 8 false) s5 s6 s15 s16 s17 s18 w.drew :=
  { two := ht.drew, low := ht.lt, bel := Below.drew (Below.refl _ _), sz := Nat.le_refl _, a0 := ha.drew, a1 := hb.drew
    f0 := fun h => by simp at h
    f1 := fun h => by simp at h
    f2 := fun h => by simp at h
    f3 := fun h => by simp at h
    f4 := fun h => by simp at h
    f5 := fun h => by simp at h
    f45 := fun h => by simp at h
    f6 := fun h => by simp at h
    f7 := fun h => by simp at h
    d6 := fun h => by simp at h
    d7 := fun h => by simp at h }
theorem listed_of {L : Array Bool} {n i : Nat} (h : ∀ i, i < n → L.getD i true = true) (hs : L.size = n) (hi : i < n) : L.getD i false = true := by
  have := h i hi
  have hl : i < L.size := by omega
  simpa [Array.getD, hl] using this
end
end Go.Proofs.YtippcalhcnjghaaDoor
/- whole.times and whole.Mul. -/
namespace Go.Proofs.YtippcalhcnjghaaDoor
open Go.RowKit Big

set_option maxHeartbeats 800000 in
theorem fits_yes (v : Value) (n : Nat) (w : World) (h : At w .u64 v (dig W n)) (hn : n < H) : Calls Tryd.prog 76 #[v] w (fun e w' => e = .returned (.bool true) ∧ w = w') := by
  have hw : n < W := Nat.lt_trans hn (by decide)
  have g := word_any v _ w h
  rw [head_dig hw] at g
  have G := hid g; clear g
  have hl : (dig W n).length ≤ 1 := sz_word hw
  obtain ⟨p, c, rfl, -⟩ := h
  generalize (dig W n).length = k at *
  unfold H at hn
  clear hw
  have h0 : (n : Int) / 4294967296 = 0 := by omega
  go_enter Tryd.func76, Tryd.ntmps76
  go_wp2_with (go_at_call 74; refine G.out.mono ?_; rintro e w' ⟨rfl, rfl⟩)
  go_ret
  exact ⟨rfl, rfl⟩
set_option maxHeartbeats 800000 in
theorem fits_no (v : Value) (n : Nat) (w : World) (h : At w .u64 v (dig W n)) (hn : H ≤ n) : Calls Tryd.prog 76 #[v] w (fun e w' => e = .returned (.bool false) ∧ w = w') := by
  by_cases hw : n < W
  · have g := word_any v _ w h
    rw [head_dig hw] at g
    have G := hid g; clear g
    have hl : (dig W n).length ≤ 1 := sz_word hw
    obtain ⟨p, c, rfl, -⟩ := h
    generalize (dig W n).length = k at *
    unfold H at hn
    unfold W at hw
    have h0 : ((n : Int) / 4294967296 == 0) = false := beq_eq_false_iff_ne.2 (by omega)
    go_enter Tryd.func76, Tryd.ntmps76
    go_wp2_with (go_at_call 74; refine G.out.mono ?_; rintro e w' ⟨rfl, rfl⟩)
    go_ret
    exact ⟨rfl, rfl⟩
  · have hl : ¬ (dig W n).length ≤ 1 := fun e => hw (Nat.lt_of_lt_of_le (lt_pow_sz W2 n) (Nat.le_trans (Nat.pow_le_pow_right (by decide) (show sz W n ≤ 1 from e)) (by simp)))
    obtain ⟨p, c, rfl, -⟩ := h
    generalize (dig W n).length = k at *
    have hd : decide ((k : Int) ≤ 1) = false := decide_eq_false (by omega)
    clear hn hw
    go_enter Tryd.func76, Tryd.ntmps76
    go_wp2_with fail
    go_ret
    exact ⟨rfl, rfl⟩

theorem sz_H_W (n : Nat) : sz H n ≤ 2 * sz W n := by
  refine sz_le_of_lt H2 ?_
  rw [Nat.pow_mul, show H ^ 2 = W from rfl]
  exact lt_pow_sz W2 n

set_option maxRecDepth 100000 in
set_option maxHeartbeats 1600000 in
theorem times_any (v0 v1 : Value) (n m : Nat) (w : World) (h0 : At w .u64 v0 (dig W n)) (h1 : At w .u64 v1 (dig W m)) (b0 : sz W n ≤ 549755813888) (b1 : sz W m ≤ 549755813888) :
    Calls Tryd.prog 51 #[v0, v1] w (RAt .u64 (dig W (n * m)) w) := by
  by_cases hs : n < H ∧ m < H
  · obtain ⟨hn, hm⟩ := hs
    have f0 := hid (fits_yes v0 n w h0 hn)
    have f1 := hid (fits_yes v1 m w h1 hm)
    have wn : n < W := Nat.lt_trans hn (by decide)
    have wm : m < W := Nat.lt_trans hm (by decide)
    have g0 := word_any v0 _ w h0
    have g1 := word_any v1 _ w h1
    rw [head_dig wn] at g0
    rw [head_dig wm] at g1
    have G0 := hid g0; have G1 := hid g1
    have hp : n * m < W := by
      have : n * m ≤ 4294967295 * 4294967295 := Nat.mul_le_mul (by unfold H at hn; omega) (by unfold H at hm; omega)
      unfold W; omega
    have hw : IntKind.u64.wrap ((n : Int) * (m : Int)) = ((n * m : Nat) : Int) := by rw [← Int.natCast_mul]; exact wrap_nat _ hp
    have hO := ownWord_any (n * m) w hp
    have HO := hid hO; have Hw := hid hw
    clear g0 g1 hw hO hp hn hm wn wm b0 b1 h0 h1
    go_enter Tryd.func51, Tryd.ntmps51
    go_wp2_with fail
    refine f0.out.mono ?_
    rintro e w' ⟨rfl, rfl⟩
    go_wp2_with fail
    refine f1.out.mono ?_
    rintro e w' ⟨rfl, rfl⟩
    go_wp2_with fail
    refine G0.out.mono ?_
    rintro e w' ⟨rfl, rfl⟩
    go_wp2_with fail
    refine G1.out.mono ?_
    rintro e w' ⟨rfl, rfl⟩
    go_wp2_with fail
    rw [Hw.out]
    refine HO.out.mono ?_
    rintro e w1 ⟨v, rfl, hv, hb⟩
    go_wp2_with fail
    go_ret
    exact ⟨_, rfl, hv, hb⟩
  · have hb0 : sz H n ≤ 1099511627776 := Nat.le_trans (sz_H_W n) (by omega)
    have hb1 : sz H m ≤ 1099511627776 := Nat.le_trans (sz_H_W m) (by omega)
    have hb2 : sz H (n * m) ≤ 2199023255552 := Nat.le_trans (sz_mul H2 n m) (by omega)
    have s0 := split_any v0 (dig W n) w h0 (small_dig W2 n) (by have : (dig W n).length = sz W n := rfl; omega)
    rw [val_dig W2] at s0
    have s1 : ∀ W', Below w.heap.size w W' → Calls Tryd.prog 61 #[v1] W' (ROwn 67 .u32 (dig H m) W') := fun W' hb => by
      have := split_any v1 (dig W m) W' (h1.below hb) (small_dig W2 m) (by have : (dig W m).length = sz W m := rfl; omega)
      rwa [val_dig W2] at this
    have th : ∀ W' u u', At W' .u32 u (dig H n) → At W' .u32 u' (dig H m) → Calls Tryd.prog 77 #[u, u'] W' (ROwn 67 .u32 (dig H (n * m)) W') := fun W' u u' hu hu' => by
      have := timesHalves_any u u' _ _ W' hu hu' (small_dig H2 n) (small_dig H2 m) (by have : (dig H n).length = sz H n := rfl; omega) (by have : (dig H m).length = sz H m := rfl; omega)
      rwa [val_dig H2, val_dig H2] at this
    have S0 := hid s0; have S1 := hid s1; have Th := hid th
    have f0 : Hid (Calls Tryd.prog 76 #[v0] w (fun e w' => e = .returned (.bool (decide (n < H))) ∧ w = w')) := by
      unfold Hid
      by_cases hn : n < H
      · rw [decide_eq_true hn]; exact fits_yes v0 n w h0 hn
      · rw [decide_eq_false hn]; exact fits_no v0 n w h0 (Nat.le_of_not_lt hn)
    have f1 : n < H → Calls Tryd.prog 76 #[v1] w (fun e w' => e = .returned (.bool false) ∧ w = w') := fun hn => fits_no v1 m w h1 (Nat.le_of_not_lt fun hm => hs ⟨hn, hm⟩)
    have F1 := hid f1
    clear s0 s1 th hs f1 h0 h1 b0 b1 hb0 hb1
    by_cases hn : n < H
    · rw [decide_eq_true hn] at f0
      go_enter Tryd.func51, Tryd.ntmps51
      go_wp2_with fail
      refine f0.out.mono ?_
      rintro e w' ⟨rfl, rfl⟩
      go_wp2_with fail
      refine (F1.out hn).mono ?_
      rintro e w' ⟨rfl, rfl⟩
      go_wp2_with fail
      refine S0.out.mono ?_
      rintro e w1 ⟨u, rfl, hu, hu1⟩
      go_wp2_with fail
      refine (S1.out _ hu1).mono ?_
      rintro e w2 ⟨u', rfl, hu', hu2⟩
      go_wp2_with fail
      refine (Th.out _ _ _ (hu.at.below hu2) hu'.at).mono ?_
      rintro e w3 ⟨u3, rfl, hu3, hb3⟩
      go_wp2_with fail
      refine (join_any _ _ _ hu3.at (by omega)).mono ?_
      rintro e w4 ⟨u4, rfl, hu4, hb4⟩
      have hbel := hid (Below.go hb4 (Below.go hb3 (Below.go hu2 hu1)))
      clear hu1 hu2 hb3 hb4
      go_wp2_with fail
      go_ret
      exact ⟨_, rfl, hu4.at, hbel.out⟩
    · rw [decide_eq_false hn] at f0
      go_enter Tryd.func51, Tryd.ntmps51
      go_wp2_with fail
      refine f0.out.mono ?_
      rintro e w' ⟨rfl, rfl⟩
      go_wp2_with fail
      refine S0.out.mono ?_
      rintro e w1 ⟨u, rfl, hu, hu1⟩
      go_wp2_with fail
      refine (S1.out _ hu1).mono ?_
      rintro e w2 ⟨u', rfl, hu', hu2⟩
      go_wp2_with fail
      refine (Th.out _ _ _ (hu.at.below hu2) hu'.at).mono ?_
      rintro e w3 ⟨u3, rfl, hu3, hb3⟩
      go_wp2_with fail
      refine (join_any _ _ _ hu3.at (by omega)).mono ?_
      rintro e w4 ⟨u4, rfl, hu4, hb4⟩
      have hbel := hid (Below.go hb4 (Below.go hb3 (Below.go hu2 hu1)))
      clear hu1 hu2 hb3 hb4
      go_wp2_with fail
      go_ret
      exact ⟨_, rfl, hu4.at, hbel.out⟩

theorem sg_mul (n0 n1 : Bool) (x y : Nat) : sg (n0 != n1) (x * y) = sg n0 x * sg n1 y := by
  unfold sg; cases n0 <;> cases n1 <;> simp [Int.neg_mul, Int.mul_neg]

set_option maxRecDepth 100000 in
set_option maxHeartbeats 1600000 in
theorem Mul_any (v0 v1 : Value) (a b : Int) (w : World) (h0 : RawAt w v0 a) (h1 : RawAt w v1 b) (ha : sz W a.natAbs ≤ 549755813888) (hb : sz W b.natAbs ≤ 549755813888) :
    Calls Tryd.prog 26 #[v0, v1] w (RInt (a * b) w) := by
  obtain ⟨n0, s0, l0, rfl, a0, b0, c0, rfl⟩ := h0
  obtain ⟨n1, s1, l1, rfl, a1, b1, c1, rfl⟩ := h1
  rw [sg_natAbs] at ha hb
  have t0 : ∀ W : World, At W .u64 s0 l0 → Calls Tryd.prog 38 #[s0] W (fun e w' => e = .returned (cutTo s0 (strip l0).length) ∧ w' = W) := fun W h => trim_val s0 l0 W h
  have t1 : ∀ W : World, At W .u64 s1 l1 → Calls Tryd.prog 38 #[s1] W (fun e w' => e = .returned (cutTo s1 (strip l1).length) ∧ w' = W) := fun W h => trim_val s1 l1 W h
  have T0 := hid t0; have T1 := hid t1; clear t0 t1
  have d0 := hid (strip_dig W2 b0)
  have d1 := hid (strip_dig W2 b1)
  obtain ⟨r, hr⟩ : ∃ r, r = sg n0 (val W l0) * sg n1 (val W l1) := ⟨_, rfl⟩
  rw [← hr]
  have Hr : Hid (sg (n0 != n1) (val W l0 * val W l1) = r) := by unfold Hid; rw [sg_mul, hr]
  clear hr
  go_enter Tryd.func26, Tryd.ntmps26
  go_wp2_with fail
  generalize hW : World.alloc (World.alloc (World.alloc w _) _) _ = W3
  have bw : Below w.heap.size w W3 := by rw [← hW]; exact ((below1 _ _).alloc (by simp) _).alloc (by simp; omega) _
  have hp : Pair W3 (w.heap.size + 1 + 1) 25 := by rw [← hW]; exact Pair.new2 ..
  obtain ⟨c00, c01, c10, c11, -⟩ : Two W3 w.heap.size (.bool n0) s0 (.bool n1) s1 := by rw [← hW]; exact (Two.new w _ _ _ _ _).below (below1 _ _)
  have z3 : w.heap.size + 3 ≤ W3.heap.size := by rw [← hW]; simp
  have A0 : ∀ W', Below W3.heap.size W3 W' → At W' .u64 (cutTo s0 (strip l0).length) (dig W (val W l0)) := fun W' h' => by have := ((a0.below bw).below h').strip; rwa [d0.out] at this ⊢
  have A1 : ∀ W', Below W3.heap.size W3 W' → At W' .u64 (cutTo s1 (strip l1).length) (dig W (val W l1)) := fun W' h' => by have := ((a1.below bw).below h').strip; rwa [d1.out] at this ⊢
  have HA0 := hid A0; have HA1 := hid A1; have bw' := hid bw; have a0' := hid (a0.below bw); have a1' := hid (a1.below bw)
  clear hW bw A0 A1 a0 a1
  generalize cutTo s0 (strip l0).length = u0 at *
  generalize cutTo s1 (strip l1).length = u1 at *
  generalize val W l0 = x at *
  generalize val W l1 = y at *
  clear d0 d1 b0 b1 c0 c1
  go_region_held3 (fun w' => w'.cell? ⟨w.heap.size, 0, none⟩ = some (.bool n0) ∧ w'.cell? ⟨w.heap.size, 1, none⟩ = some s0 ∧ w'.cell? ⟨w.heap.size + 1, 0, none⟩ = some (.bool n1) ∧ w'.cell? ⟨w.heap.size + 1, 1, none⟩ = some s1 ∧ Pair w' (w.heap.size + 1 + 1) 25)
    (first | (go_split_ands; (try dsimp only); (repeat' apply And.intro) <;> first | assumption | exact Pair.drew ‹_› | exact Pair.below ‹_› hb9 | exact Pair.below ‹_› hb8 | exact Pair.below ‹_› hb7 | exact Pair.below ‹_› hb6 | exact Pair.below ‹_› hb5 | exact Pair.below ‹_› hb4 | exact Pair.below ‹_› hb3 | exact Pair.below ‹_› hb2 | exact Pair.below ‹_› hb1 | exact (hb9.cell (by first | omega | (simp; omega) | (simp; done))).trans ‹_› | exact (hb8.cell (by first | omega | (simp; omega) | (simp; done))).trans ‹_› | exact (hb7.cell (by first | omega | (simp; omega) | (simp; done))).trans ‹_› | exact (hb6.cell (by first | omega | (simp; omega) | (simp; done))).trans ‹_› | exact (hb5.cell (by first | omega | (simp; omega) | (simp; done))).trans ‹_› | exact (hb4.cell (by first | omega | (simp; omega) | (simp; done))).trans ‹_› | exact (hb3.cell (by first | omega | (simp; omega) | (simp; done))).trans ‹_› | exact (hb2.cell (by first | omega | (simp; omega) | (simp; done))).trans ‹_› | exact (hb1.cell (by first | omega | (simp; omega) | (simp; done))).trans ‹_› | exact Pair.set1 (Pair.set0 ‹_› _) _ _ _ | exact (cell_stored _ (by first | (dsimp only; omega) | (simp; done) | (simp; omega)) _ _).trans ‹_› | exact Pair.drew (Pair.below ‹_› (below1 _ _)) | exact Pair.below ‹_› (below1 _ _) | exact Pair.far ‹_› (by omega) hb1 | exact Pair.new .. | exact Pair.new1 .. | exact Pair.new2 .. | (go_keep; done)) | (go_keep; done))
    (first
      | (go_at_call_of 38 (s0); refine (T0.out _ a0'.out.drew).mono ?_; rintro e w' ⟨rfl, rfl⟩)
      | (go_at_call_of 38 (s1); refine (T1.out _ a1'.out.drew).mono ?_; rintro e w' ⟨rfl, rfl⟩)
      | (go_at_call 51; refine (times_any u0 u1 x y _ (HA0.out _ (Below.drew (Below.refl _ _))) (HA1.out _ (Below.drew (Below.refl _ _))) ha hb).mono ?_; rintro e w1 ⟨v1, rfl, ho1, hb1⟩; have hz1 : w.heap.size + 3 ≤ w1.heap.size := (by have := hb1.size; simp at this; omega))
      | (go_at_call 39; refine (told_any (n0 != n1) _ _ _ ho1).mono ?_; rintro e w2 ⟨v2, rfl, hi2, hb2⟩; obtain ⟨p2, n2, c2, rfl, hi2⟩ := hi2.shape; have hpr := Pair.below (by go_split_ands; assumption) hb2; obtain ⟨_, _, q0, q1, q2, q3⟩ := hpr.cells))
  go_wp2
  exact bodyPost_ret (v := .agg #[.bool (decide (sg (n0 != n1) (x * y) < 0)), .slice p2 n2 c2]) (by simp [results, Tryd.results26, go_sem, q0, q1]) rfl
    ⟨_, rfl, by rw [← Hr.out]; exact hi2.stored hpr _ _ _ _, Below.stored ((bw'.out.drew.trans (hb1.mono (B' := w.heap.size) (by simp; omega))).trans (hb2.mono (B' := w.heap.size) (by omega))) (by omega) _ _⟩
end Go.Proofs.YtippcalhcnjghaaDoor
/- elenchusref01.Mul. -/
namespace Go.Proofs.YtippcalhcnjghaaDoor
open Go.RowKit Big

theorem sz_D_W (n : Nat) : sz D n ≤ 4 * sz W n := by
  refine sz_le_of_lt D2 ?_
  rw [Nat.pow_mul, show D ^ 4 = W from rfl]
  exact lt_pow_sz W2 n

set_option maxRecDepth 100000 in
set_option maxHeartbeats 1600000 in
theorem RMul_any (v0 v1 : Value) (a b : Int) (w : World) (h0 : RawAt w v0 a) (h1 : RawAt w v1 b) (ha : sz W a.natAbs ≤ 549755813888) (hb : sz W b.natAbs ≤ 549755813888) :
    Calls Tryd.prog 27 #[v0, v1] w (RInt (a * b) w) := by
  obtain ⟨n0, s0, l0, rfl, a0, b0, c0, rfl⟩ := h0
  obtain ⟨n1, s1, l1, rfl, a1, b1, c1, rfl⟩ := h1
  rw [sg_natAbs] at ha hb
  have g0 : ∀ W', Below w.heap.size w W' → Calls Tryd.prog 45 #[s0] W' (RAt .i64 (dig D (val W l0)) W') := fun W' hb => Digits_any s0 l0 W' (a0.below hb) b0 (by omega)
  have g1 : ∀ W', Below w.heap.size w W' → Calls Tryd.prog 45 #[s1] W' (RAt .i64 (dig D (val W l1)) W') := fun W' hb => Digits_any s1 l1 W' (a1.below hb) b1 (by omega)
  obtain ⟨r, hr⟩ : ∃ r, r = sg n0 (val W l0) * sg n1 (val W l1) := ⟨_, rfl⟩
  rw [← hr]
  have Hr : Hid (sg (n0 != n1) (val W l0 * val W l1) = r) := by unfold Hid; rw [sg_mul, hr]
  clear hr
  generalize val W l0 = x at *
  generalize val W l1 = y at *
  have d0 : sz D x ≤ 2199023255552 := Nat.le_trans (sz_D_W x) (by omega)
  have d1 : sz D y ≤ 2199023255552 := Nat.le_trans (sz_D_W y) (by omega)
  have dxy : sz D (x * y) ≤ 8796093022208 := Nat.le_trans (sz_mul D2 x y) (by omega)
  have wxy : sz W (x * y) ≤ 2199023255552 := Nat.le_trans (sz_mul W2 x y) (by omega)
  have ht : ∀ W' u u', At W' .i64 u (dig D x) → At W' .i64 u' (dig D y) → Calls Tryd.prog 52 #[u, u'] W' (RAt .i64 (dig D (x * y)) W') := fun W' u u' hu hu' => by
    have := rtimes_any u u' _ _ W' hu hu' (small_dig D2 x) (small_dig D2 y) (by show sz D x ≤ _; omega) (by show sz D y ≤ _; omega)
    rwa [val_dig D2, val_dig D2] at this
  have hf : ∀ W' u, At W' .i64 u (dig D (x * y)) → Calls Tryd.prog 43 #[u] W' (RAt .u64 (dig W (x * y)) W') := fun W' u hu => by
    have := From_any u _ W' hu (small_dig D2 _) dxy
    rwa [val_dig D2] at this
  have hw : ∀ W' u, At W' .u64 u (dig W (x * y)) → Calls Tryd.prog 24 #[.bool (n0 != n1), u] W' (RInt r W') := fun W' u hu => by
    have := Whole_any (n0 != n1) u _ W' hu (small_dig W2 _) wxy
    rw [val_dig W2, Hr.out] at this
    exact this
  have G0 := hid g0; have G1 := hid g1; have HT := hid ht; have HF := hid hf; have HW := hid hw
  clear g0 g1 ht hf hw a0 a1 b0 b1 c0 c1 ha hb Hr
  go_enter Tryd.func27, Tryd.ntmps27
  go_wp2_with fail
  generalize hW : World.alloc (World.alloc (World.alloc w _) _) _ = W3
  have bw : Below w.heap.size w W3 := by rw [← hW]; exact ((below1 _ _).alloc (by simp) _).alloc (by simp; omega) _
  have hp : Pair W3 (w.heap.size + 1 + 1) 25 := by rw [← hW]; exact Pair.new2 ..
  obtain ⟨c00, c01, c10, c11, -⟩ : Two W3 w.heap.size (.bool n0) s0 (.bool n1) s1 := by rw [← hW]; exact (Two.new w _ _ _ _ _).below (below1 _ _)
  have z3 : w.heap.size + 3 ≤ W3.heap.size := by rw [← hW]; simp
  have bw' := hid bw
  clear hW
  go_region_held3 (fun w' => w'.cell? ⟨w.heap.size, 0, none⟩ = some (.bool n0) ∧ w'.cell? ⟨w.heap.size, 1, none⟩ = some s0 ∧ w'.cell? ⟨w.heap.size + 1, 0, none⟩ = some (.bool n1) ∧ w'.cell? ⟨w.heap.size + 1, 1, none⟩ = some s1 ∧ Pair w' (w.heap.size + 1 + 1) 25)
    (first | (go_split_ands; (try dsimp only); (repeat' apply And.intro) <;> first | assumption | exact Pair.drew ‹_› | exact Pair.below ‹_› hb9 | exact Pair.below ‹_› hb8 | exact Pair.below ‹_› hb7 | exact Pair.below ‹_› hb6 | exact Pair.below ‹_› hb5 | exact Pair.below ‹_› hb4 | exact Pair.below ‹_› hb3 | exact Pair.below ‹_› hb2 | exact Pair.below ‹_› hb1 | exact (hb9.cell (by first | omega | (simp; omega) | (simp; done))).trans ‹_› | exact (hb8.cell (by first | omega | (simp; omega) | (simp; done))).trans ‹_› | exact (hb7.cell (by first | omega | (simp; omega) | (simp; done))).trans ‹_› | exact (hb6.cell (by first | omega | (simp; omega) | (simp; done))).trans ‹_› | exact (hb5.cell (by first | omega | (simp; omega) | (simp; done))).trans ‹_› | exact (hb4.cell (by first | omega | (simp; omega) | (simp; done))).trans ‹_› | exact (hb3.cell (by first | omega | (simp; omega) | (simp; done))).trans ‹_› | exact (hb2.cell (by first | omega | (simp; omega) | (simp; done))).trans ‹_› | exact (hb1.cell (by first | omega | (simp; omega) | (simp; done))).trans ‹_› | exact Pair.set1 (Pair.set0 ‹_› _) _ _ _ | exact (cell_stored _ (by first | (dsimp only; omega) | (simp; done) | (simp; omega)) _ _).trans ‹_› | exact Pair.drew (Pair.below ‹_› (below1 _ _)) | exact Pair.below ‹_› (below1 _ _) | exact Pair.far ‹_› (by omega) hb1 | exact Pair.new .. | exact Pair.new1 .. | exact Pair.new2 .. | (go_keep; done)) | (go_keep; done))
    (first
      | (go_at_call_of 45 (s0); (fail_if_success have _t := i1); refine (G0.out _ (Below.drew bw'.out)).mono ?_; rintro e w1 ⟨v1, rfl, i1, hb1⟩; have hz1 : w.heap.size + 3 ≤ w1.heap.size := (by have := hb1.size; simp at this; omega); have bw1 := hid (bw'.out.drew.trans (hb1.mono (B' := w.heap.size) (by simp; omega))))
      | (go_at_call_of 45 (s1); refine (G1.out _ bw1.out).mono ?_; rintro e w2 ⟨v2, rfl, i2, hb2⟩; have i1' := i1.below hb2; have hz2 : w.heap.size + 3 ≤ w2.heap.size := (by have := hb2.size; omega); have bw2 := hid (bw1.out.trans (hb2.mono (B' := w.heap.size) (by omega))))
      | (go_at_call 52; refine (HT.out _ _ _ i1' i2).mono ?_; rintro e w3 ⟨v3, rfl, i3, hb3⟩; have hz3 : w.heap.size + 3 ≤ w3.heap.size := (by have := hb3.size; omega); have bw3 := hid (bw2.out.trans (hb3.mono (B' := w.heap.size) (by omega))))
      | (go_at_call 43; refine (HF.out _ _ i3).mono ?_; rintro e w4 ⟨v4, rfl, i4, hb4⟩; have hz4 : w.heap.size + 3 ≤ w4.heap.size := (by have := hb4.size; omega); have bw4 := hid (bw3.out.trans (hb4.mono (B' := w.heap.size) (by omega))))
      | (go_at_call 24; refine (HW.out _ _ i4).mono ?_; rintro e w5 ⟨v5, rfl, hi5, hb5⟩; have hz5 : w.heap.size + 3 ≤ w5.heap.size := (by have := hb5.size; omega); have bw5 := hid (bw4.out.trans (hb5.mono (B' := w.heap.size) (by omega))); obtain ⟨p5, n5, c5, rfl, hi5⟩ := hi5.shape; have hpr := Pair.below (by go_split_ands; assumption) hb5; obtain ⟨_, _, q0, q1, q2, q3⟩ := hpr.cells))
  go_wp2
  exact bodyPost_ret (v := .agg #[.bool (decide (r < 0)), .slice p5 n5 c5]) (by simp [results, Tryd.results27, go_sem, q0, q1]) rfl
    ⟨_, rfl, hi5.stored hpr _ _ _ _, Below.stored bw5.out (by omega) _ _⟩
end Go.Proofs.YtippcalhcnjghaaDoor
/- Division as on paper: plain numbers. -/
namespace Go.Proofs.YtippcalhcnjghaaDoor.Big

/-- the guess from the highest halves: right, or one too often -/
theorem guess_ok {P low lowb R T r0 r1 r2 t0 t1 h q : Nat} (hl : low < P) (hlb : lowb < P) (hR : R = r0 + H * r1 + H * H * r2) (hT : T = t0 + H * t1)
    (h0 : r0 < H) (h1 : r1 < H) (ht0 : t0 < H) (ht : 2147483648 ≤ t1) (hlt : low + P * R < (lowb + P * T) * H) (hh : h = (r2 * H + r1) / t1) (hq : q = (low + P * R) / (lowb + P * T)) :
    q < H ∧ h ≤ H + 1 ∧ ((H ≤ h ∨ R < h * T) → q ≤ h - 1 ∧ h - 1 ≤ q + 1 ∧ h - 1 ≤ H ∧ 0 < h) ∧ (h < H → h * T ≤ R → q ≤ h ∧ h ≤ q + 1) := by
  have hH : H = 4294967296 := rfl
  have hB : 0 < lowb + P * T := by
    have : 0 < T := by rw [hT]; have : H * 2147483648 ≤ H * t1 := Nat.mul_le_mul_left _ ht; omega
    have : 0 < P * T := Nat.mul_pos (by omega) this
    omega
  have q1 : q < H := by rw [hq, Nat.div_lt_iff_lt_mul hB]; rw [Nat.mul_comm H]; exact hlt
  have hqB : q * (lowb + P * T) ≤ low + P * R := by rw [hq]; exact Nat.div_mul_le_self _ _
  have lower : ∀ k, k * (T + 1) ≤ R → k ≤ q := fun k hk => by
    rw [hq, Nat.le_div_iff_mul_le hB]
    have e1 : k * (lowb + P * T) ≤ k * (P * (T + 1)) := Nat.mul_le_mul_left _ (by rw [Nat.mul_add]; omega)
    have e2 : k * (P * (T + 1)) = P * (k * (T + 1)) := by grind
    have e3 : P * (k * (T + 1)) ≤ P * R := Nat.mul_le_mul_left _ hk
    omega
  have qT : q * T ≤ R := by
    have e1 : P * (q * T) ≤ low + P * R := by
      have : P * (q * T) = q * (P * T) := by grind
      have : q * (P * T) ≤ q * (lowb + P * T) := Nat.mul_le_mul_left _ (by omega)
      omega
    have e2 : P * (q * T) < P * (R + 1) := by rw [Nat.mul_add]; omega
    have := Nat.lt_of_mul_lt_mul_left e2
    omega
  have r2t : r2 ≤ t1 := by
    have e1 : P * (H * H * r2) ≤ P * R := Nat.mul_le_mul_left _ (by rw [hR]; omega)
    have e2 : (lowb + P * T) * H < P * (H * H * (t1 + 1)) := by
      have a1 : lowb + P * T < P * (H * (t1 + 1)) := by
        have : T + 1 ≤ H * (t1 + 1) := by rw [hT, Nat.mul_add]; omega
        have : P * (T + 1) ≤ P * (H * (t1 + 1)) := Nat.mul_le_mul_left _ this
        rw [Nat.mul_add] at this; omega
      have a2 : (lowb + P * T) * H < P * (H * (t1 + 1)) * H := Nat.mul_lt_mul_of_pos_right a1 (by omega)
      have a3 : P * (H * (t1 + 1)) * H = P * (H * H * (t1 + 1)) := by grind
      omega
    have e3 : P * (H * H * r2) < P * (H * H * (t1 + 1)) := by omega
    have e4 := Nat.lt_of_mul_lt_mul_left e3
    have e5 := Nat.lt_of_mul_lt_mul_left e4
    omega
  have hle : h ≤ H + 1 := by
    have : h < H + 2 := by
      rw [hh, Nat.div_lt_iff_lt_mul (by omega)]
      have e1 : r2 * H ≤ t1 * H := Nat.mul_le_mul_right _ r2t
      have e2 : (H + 2) * t1 = t1 * H + 2 * t1 := by grind
      rw [e2]; omega
    omega
  have hht : h * t1 ≤ r2 * H + r1 := by rw [hh]; exact Nat.div_mul_le_self _ _
  have hRh : R = (r2 * H + r1) * H + r0 := by rw [hR]; grind
  refine ⟨q1, hle, fun hc => ?_, fun hc1 hc2 => ?_⟩
  · have qh : q < h := by
      rcases hc with hc | hc
      · omega
      · have : q * T < h * T := by omega
        exact Nat.lt_of_mul_lt_mul_right this
    refine ⟨by omega, ?_, by omega, by omega⟩
    by_cases h2 : 2 ≤ h
    · have := lower (h - 2) (by
        obtain ⟨k, rfl⟩ : ∃ k, h = k + 2 := ⟨h - 2, by omega⟩
        have ek : k + 2 - 2 = k := by omega
        rw [ek]
        have e1 : k * (T + 1) ≤ k * (t1 * H + H) := Nat.mul_le_mul_left _ (by rw [hT, Nat.mul_comm H t1]; omega)
        have e2 : k * (t1 * H + H) + 2 * t1 * H = (k + 2) * t1 * H + k * H := by grind
        have e3 : (k + 2) * t1 * H ≤ (r2 * H + r1) * H := Nat.mul_le_mul_right _ hht
        have e4 : k * H ≤ 2 * t1 * H := Nat.mul_le_mul_right _ (by omega)
        omega)
      omega
    · omega
  · refine ⟨?_, ?_⟩
    · have : q * t1 ≤ r2 * H + r1 := by
        have e1 : q * T ≤ (r2 * H + r1) * H + r0 := by rw [← hRh]; exact qT
        have e2 : q * t1 * H ≤ q * T := by
          have : q * T = q * t0 + q * t1 * H := by rw [hT]; grind
          omega
        have e3 : q * t1 * H < (r2 * H + r1 + 1) * H := by rw [Nat.add_mul (r2 * H + r1) 1 H]; omega
        have := Nat.lt_of_mul_lt_mul_right e3
        omega
      rw [hh, Nat.le_div_iff_mul_le (by omega)]; exact this
    · by_cases h1' : 1 ≤ h
      · have := lower (h - 1) (by
          obtain ⟨k, rfl⟩ : ∃ k, h = k + 1 := ⟨h - 1, by omega⟩
          have ek : k + 1 - 1 = k := by omega
          rw [ek]
          have e1 : k * (T + 1) + T = (k + 1) * T + k := by grind
          have e2 : H ≤ T := by rw [hT]; have : H * 1 ≤ H * t1 := Nat.mul_le_mul_left _ (by omega); omega
          omega)
        omega
      · omega
end Go.Proofs.YtippcalhcnjghaaDoor.Big
