/- A region that draws its order, walked operation by operation under an invariant that speaks of what has come up: no branching over the orders. -/
import Derived.WalkKit
import Derived.Deep.RegionHeld3
namespace Go.Proofs.YtlicmnlllappnaaDoor

theorem count_false_set (l : List Bool) (i : Nat) (h : i < l.length) (hf : l[i] = false) : (l.set i true).count false + 1 = l.count false := by
  induction l generalizing i with
  | nil => simp at h
  | cons b l ih =>
    cases i with
    | zero => simp at hf; subst hf; simp
    | succ i =>
      have := ih i (by simpa using h) (by simpa using hf)
      cases b <;> simp [List.set_cons_succ] <;> omega

/-- edges lead to lower numbers -/
def edgesDown (md : Region.Mode) (ops : Array Oper) : Bool := (List.range ops.size).all fun i => (ops[i]?).all fun o => o.after.all fun e => !Region.binds md e || decide (e.on < i)

theorem all_listed {md : Region.Mode} {ops : Array Oper} (hd : edgesDown md ops = true) {listed : Array Bool} (hs : listed.size = ops.size) (hr : Region.ready md ops listed = []) : ∀ i, i < ops.size → listed.getD i true = true := by
  intro i
  induction i using Nat.strongRecOn with
  | _ i ih =>
    intro hi
    cases hun : listed.getD i true with
    | true => rfl
    | false =>
    have : i ∈ Region.ready md ops listed := mem_ready.2 ⟨hun, ops[i], by simp [hi], fun e he hb => by
      have h1 := List.all_eq_true.1 hd i (by simpa using hi)
      have h2 : ops[i]? = some ops[i] := by simp [hi]
      rw [h2] at h1
      simp only [Option.all_some, Array.all_eq_true_iff_forall_mem] at h1
      have hlt : e.on < i := by simpa [hb] using h1 e he
      have h4 := ih e.on hlt (by omega)
      have h5 : e.on < listed.size := by omega
      simpa [Array.getD, h5] using h4⟩
    rw [hr] at this; cases this

theorem wpAny_inv {P : Program} {ops : Array Oper} {Q : Exit → Act → World → Prop} {md : Region.Mode} (I : Array Bool → Act → World → Prop) (hd : edgesDown md ops = true)
    (hstep : ∀ listed a w, listed.size = ops.size → I listed a w → ∀ i, i ∈ Region.ready md ops listed → wpOp P ops Q i (fun a' w' => I (listed.setIfInBounds i true) a' w') a w)
    (hend : ∀ listed a w, listed.size = ops.size → I listed a w → (∀ i, i < ops.size → listed.getD i true = true) → Q .normal a w) :
    ∀ (fuel : Nat) (listed : Array Bool) (a : Act) (w : World), listed.size = ops.size → listed.toList.count false ≤ fuel → I listed a w → wpAny P md ops Q fuel listed a w := by
  intro fuel
  induction fuel with
  | zero =>
    intro listed a w hs hc hI
    have hr : Region.ready md ops listed = [] := by
      cases hr : Region.ready md ops listed with
      | nil => rfl
      | cons i is =>
        have hm : i ∈ Region.ready md ops listed := by rw [hr]; simp
        obtain ⟨hun, o, ho, -⟩ := mem_ready.1 hm
        have hi : i < listed.size := by rw [hs]; exact (Array.getElem?_eq_some_iff.1 ho).1
        have hmem : false ∈ listed.toList := by
          have : listed[i] = false := by simpa [Array.getD, hi] using hun
          rw [← this]; simp
        have := List.count_pos_iff.2 hmem
        omega
    exact ⟨hr, hend _ _ _ hs hI (all_listed hd hs hr)⟩
  | succ fuel ih =>
    intro listed a w hs hc hI
    refine ⟨fun hr => hend _ _ _ hs hI (all_listed hd hs hr), fun i hi => ?_⟩
    obtain ⟨hun, o, ho, -⟩ := mem_ready.1 hi
    have hil : i < listed.size := by rw [hs]; exact (Array.getElem?_eq_some_iff.1 ho).1
    have hf : listed.toList[i] = false := by simpa [Array.getD, hil] using hun
    have hcount := count_false_set listed.toList i (by simpa using hil) hf
    refine wpOp_mono (fun a' w' h => ih _ a' w' (by simpa using hs) ?_ h) (hstep listed a w hs hI i hi)
    simp only [Array.toList_setIfInBounds]
    omega

/-- The invariant rule at a region: it holds at the beginning with nothing listed. -/
theorem wp_region_inv {P : Program} {ops : Array Oper} {Q : Exit → Act → World → Prop} {id : Nat} {a : Act} {w : World} (I : Array Bool → Act → World → Prop) (hm : P.follows .mixedOrders = true) (hd : edgesDown .any ops = true)
    (h0 : I (Array.replicate ops.size false) a w.drew)
    (hstep : ∀ i o, ops[i]? = some o → ∀ listed a w, listed.size = ops.size → I listed a w → listed.getD i true = false → (∀ e ∈ o.after, Region.binds .any e = true → listed.getD e.on false = true) →
      ∀ K : Act → World → Prop, Shut (∀ a w, I (listed.setIfInBounds i true) a w → K a w) → if Region.wanted o (yielded ops a.tmps) = true then Oper.wp P o a w K Q else K (a.put o.dst undef) w)
    (hend : ∀ listed a w, listed.size = ops.size → I listed a w → (∀ i, i < ops.size → listed.getD i true = true) → Q .normal a w) : (Code.region id ops true).wp P Q a w := by
  refine wp_region_any hm (wpAny_inv I hd ?_ hend ops.size _ a w.drew (by simp) (by simp) h0)
  intro listed a w hs hI i hi
  obtain ⟨hun, o, ho, hall⟩ := mem_ready.1 hi
  exact wpOp_step ho (fun K hK => hstep i o ho listed a w hs hI hun hall K hK)

/-- six slots set -/
def put6 (a : Act) (d1 d2 d3 d4 d5 d6 : Tmp) (v1 v2 v3 v4 v5 v6 : Value) : Act := (((((a.put (some d1) v1).put (some d2) v2).put (some d3) v3).put (some d4) v4).put (some d5) v5).put (some d6) v6
/-- the rule with six slots that vary -/
theorem wp_region_inv6 {P : Program} {ops : Array Oper} {Q : Exit → Act → World → Prop} {id : Nat} {a0 : Act} {w : World} (d1 d2 d3 d4 d5 d6 : Tmp) (v1 v2 v3 v4 v5 v6 : Value)
    (J : Array Bool → Value → Value → Value → Value → Value → Value → World → Prop) (hm : P.follows .mixedOrders = true) (hd : edgesDown .any ops = true)
    (he : a0 = put6 a0 d1 d2 d3 d4 d5 d6 v1 v2 v3 v4 v5 v6) (h0 : J (Array.replicate ops.size false) v1 v2 v3 v4 v5 v6 w.drew)
    (hstep : ∀ i o, ops[i]? = some o → ∀ listed s1 s2 s3 s4 s5 s6 w, listed.size = ops.size → J listed s1 s2 s3 s4 s5 s6 w → listed.getD i false = false → (∀ e ∈ o.after, Region.binds .any e = true → listed.getD e.on false = true) →
      ∀ K : Act → World → Prop, Shut (∀ t1 t2 t3 t4 t5 t6 w, J (listed.setIfInBounds i true) t1 t2 t3 t4 t5 t6 w → K (put6 a0 d1 d2 d3 d4 d5 d6 t1 t2 t3 t4 t5 t6) w) →
      if Region.wanted o (yielded ops (put6 a0 d1 d2 d3 d4 d5 d6 s1 s2 s3 s4 s5 s6).tmps) = true then Oper.wp P o (put6 a0 d1 d2 d3 d4 d5 d6 s1 s2 s3 s4 s5 s6) w K Q else K ((put6 a0 d1 d2 d3 d4 d5 d6 s1 s2 s3 s4 s5 s6).put o.dst undef) w)
    (hend : ∀ listed s1 s2 s3 s4 s5 s6 w, listed.size = ops.size → J listed s1 s2 s3 s4 s5 s6 w → (∀ i, i < ops.size → listed.getD i true = true) → Q .normal (put6 a0 d1 d2 d3 d4 d5 d6 s1 s2 s3 s4 s5 s6) w) : (Code.region id ops true).wp P Q a0 w := by
  refine wp_region_inv (fun L a w => ∃ s1 s2 s3 s4 s5 s6, a = put6 a0 d1 d2 d3 d4 d5 d6 s1 s2 s3 s4 s5 s6 ∧ J L s1 s2 s3 s4 s5 s6 w) hm hd ⟨_, _, _, _, _, _, he, h0⟩ ?_ ?_
  · rintro i o ho L a w hs ⟨s1, s2, s3, s4, s5, s6, rfl, hJ⟩ hun hall K hK
    refine hstep i o ho L s1 s2 s3 s4 s5 s6 w hs hJ ?_ hall K (fun t1 t2 t3 t4 t5 t6 w h => hK.out _ _ ⟨_, _, _, _, _, _, rfl, h⟩)
    by_cases hi : i < L.size
    · simpa [Array.getD, hi] using hun
    · simp [Array.getD, hi]
  · rintro L a w hs ⟨s1, s2, s3, s4, s5, s6, rfl, hJ⟩ hall
    exact hend L s1 s2 s3 s4 s5 s6 w hs hJ hall

end Go.Proofs.YtlicmnlllappnaaDoor
