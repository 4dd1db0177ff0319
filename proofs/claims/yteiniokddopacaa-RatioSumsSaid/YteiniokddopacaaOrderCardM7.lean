/- Texts put together: Late, RatOps, RatOps2, RatNew. -/
import Derived.Test.YteiniokddopacaaOrderCardM6
import Derived.Deep.DeepCutAuto
/- A region that draws its order, one operation of which may come behind a store (two results, stored into two variables). -/
namespace Go.Proofs.Yteiniokddopacaa
open Go.RowKit

def storesWaitBut (md : Region.Mode) (ops : Array Oper) (n late : Nat) : Bool := (List.range ops.size).all fun i => decide (i < n) || (List.range n).all fun j => j == late || reach md ops 6 i j
theorem wpAny_late {P : Program} {ops : Array Oper} {Q : Exit → Act → World → Prop} {a0 : Act} {w0 : World} (n s : Nat) (hsize : ops.size = n + s) (ds : List Tmp) (f : Nat → SFact) (al : List Nat)
    (hd : edgesDown .any ops = true) (late : Nat) (hln : late < n) (hsw : storesWaitBut .any ops n late = true) (hdn : ds.Nodup) (hlen : ds.length = n) (hds : dstsAre ops n ds = true)
    (hal : ∀ i ∈ al, ∀ v w, (f i).P v w → ∃ g, v = .pointer (some ⟨g, 0, none⟩) ∧ g < w.heap.size)
    (hstep : ∀ i o, i < n → ops[i]? = some o → ∀ vs w, vs.length = n → Below w0.heap.size w0 w → (∀ e ∈ o.after, Region.binds .any e = true → (f e.on).P (vs.getD e.on undef) w) →
      ∀ K : Act → World → Prop, Shut (∀ v w', (f i).P v w' → Below w.heap.size w w' → (i ∈ al → v = .pointer (some ⟨w.heap.size, 0, none⟩)) → K ((putAll a0 ds vs).put o.dst v) w') →
        if Region.wanted o (yielded ops (putAll a0 ds vs).tmps) = true then Oper.wp P o (putAll a0 ds vs) w K Q else K ((putAll a0 ds vs).put o.dst undef) w)
    (hend : ∀ vs w, vs.length = n → Below w0.heap.size w0 w → (∀ i, i < n → (f i).P (vs.getD i undef) w) → (∀ i ∈ al, ∀ j ∈ al, i ≠ j → vs.getD i undef ≠ vs.getD j undef) →
      wpAny P .any ops Q s ((List.replicate n true ++ List.replicate s false).toArray) (putAll a0 ds vs) w)
    (hlate : ∀ vs w, vs.length = n → Below w0.heap.size w0 w → (∀ i, i < n → i ≠ late → (f i).P (vs.getD i undef) w) → (∀ i ∈ al, ∀ j ∈ al, i ≠ j → i ≠ late → j ≠ late → vs.getD i undef ≠ vs.getD j undef) →
      wpAny P .any ops Q (s + 1) (((List.replicate n true).set late false ++ List.replicate s false).toArray) (putAll a0 ds vs) w) :
    ∀ (c : Nat) (L : Array Bool) (vs : List Value) (w : World), (L.toList.take n).count false = c → L.size = n + s → (∀ j, n ≤ j → j < n + s → L.getD j true = false) → Closed .any ops L → vs.length = n → Below w0.heap.size w0 w →
      (∀ i, i < n → L.getD i false = true → (f i).P (vs.getD i undef) w) → (∀ i ∈ al, ∀ j ∈ al, i < n → j < n → i ≠ j → L.getD i false = true → L.getD j false = true → vs.getD i undef ≠ vs.getD j undef) →
      (∀ i ∈ al, i < n) → wpAny P .any ops Q (c + s) L (putAll a0 ds vs) w := by
  intro c
  induction c with
  | zero =>
    intro L vs w hc hs hst hcl hvl hb hf hdist haln
    have hall : ∀ i, i < n → L.getD i false = true := fun i hi => by
      have hil : i < L.size := by omega
      cases hb : L[i] with
      | true => simp [Array.getD, hil, hb]
      | false =>
        exfalso
        have hmem : false ∈ L.toList.take n := by
          rw [List.mem_take_iff_getElem]
          exact ⟨i, by simp; omega, by simpa using hb⟩
        have := List.count_pos_iff.2 hmem
        omega
    have hL : L = (List.replicate n true ++ List.replicate s false).toArray := by
      apply Array.ext
      · simp [hs]
      · intro i hi hi2
        by_cases h : i < n
        · have := hall i h
          simp only [Array.getD, hi] at this
          simp [h]
          simpa using this
        · have := hst i (by omega) (by omega)
          simp only [Array.getD, hi] at this
          simp [List.getElem_append, h]
          simpa using this
    rw [Nat.zero_add, hL]
    exact hend vs w hvl hb (fun i hi => hf i hi (hall i hi)) (fun i hi j hj hne => hdist i hi j hj (haln i hi) (haln j hj) hne (hall i (haln i hi)) (hall j (haln j hj)))
  | succ c ih =>
    intro L vs w hc hs hst hcl hvl hb hf hdist haln
    have hnot : ¬ ∀ i, i < n → L.getD i false = true := fun hall => by
      have : (L.toList.take n).count false = 0 := by
        rw [List.count_eq_zero]
        intro hmem
        rw [List.mem_take_iff_getElem] at hmem
        obtain ⟨i, hi, hif⟩ := hmem
        have hi' : i < L.size := by simp at hi; omega
        have := hall i (by simp at hi; omega)
        have h2 : L.getD i false = L[i] := by simp [Array.getD, hi']
        rw [h2] at this
        rw [Array.getElem_toList] at hif
        rw [hif] at this
        cases this
      omega
    by_cases hmiss : ∀ i, i < n → i ≠ late → L.getD i false = true
    · have hlf : L.getD late false = false := by
        cases hb : L.getD late false with
        | false => rfl
        | true => exact absurd (fun i hi => by by_cases h : i = late; · rw [h]; exact hb
                                               · exact hmiss i hi h) hnot
      have hL : L = (((List.replicate n true).set late false ++ List.replicate s false)).toArray := by
        apply Array.ext
        · simp [hs]
        · intro i hi hi2
          by_cases h : i < n
          · by_cases h2 : i = late
            · subst h2
              simp only [Array.getD, hi] at hlf
              simp [h]
              simpa using hlf
            · have := hmiss i h h2
              simp only [Array.getD, hi] at this
              simp [h, List.getElem_set_ne (Ne.symm h2)]
              simpa using this
          · have := hst i (by omega) (by omega)
            simp only [Array.getD, hi] at this
            simp [List.getElem_append, h]
            simpa using this
      have hc0 : c = 0 := by
        have h1 : L.toList.take n = (List.replicate n true).set late false := by
          rw [hL]; simp
        rw [h1, List.count_set (by simpa using hln), List.count_replicate, List.getElem_replicate] at hc
        have e1 : (true == false) = false := rfl
        rw [e1] at hc
        simp only [beq_self_eq_true, if_true, Bool.false_eq_true, if_false] at hc
        omega
      subst hc0
      rw [show 0 + 1 + s = s + 1 by omega, hL]
      exact hlate vs w hvl hb (fun i hi hne => hf i hi (hmiss i hi hne)) (fun i hi j hj hne h1 h2 => hdist i hi j hj (haln i hi) (haln j hj) hne (hmiss i (haln i hi) h1) (hmiss j (haln j hj) h2))
    rw [show c + 1 + s = (c + s) + 1 by omega]
    refine ⟨fun hr => ?_, fun i hi => ?_⟩
    · exfalso
      apply hnot
      intro i hi
      have := all_listed hd (by rw [hs, hsize]) hr i (by omega)
      have hil : i < L.size := by omega
      simpa [Array.getD, hil] using this
    · obtain ⟨hun, o, ho, hall⟩ := mem_ready.1 hi
      have hio : i < ops.size := (Array.getElem?_eq_some_iff.1 ho).1
      have hil : i < L.size := by omega
      have hin : i < n := by
        rcases Nat.lt_or_ge i n with h | h
        · exact h
        · exfalso
          apply hmiss
          intro j hj hjl
          have h1 := List.all_eq_true.1 hsw i (by simpa using hio)
          simp only [Bool.or_eq_true, decide_eq_true_eq] at h1
          rcases h1 with h1 | h1
          · omega
          · have h2 := List.all_eq_true.1 h1 j (by simpa using hj)
            simp only [Bool.or_eq_true, beq_iff_eq] at h2
            rcases h2 with h2 | h2
            · exact absurd h2 hjl
            · exact reach_listed hcl 6 i o j ho hall h2
      have hdst : o.dst = ds[i]? := by
        have h1 := List.all_eq_true.1 hds i (by simpa using hin)
        rw [ho] at h1
        simpa using h1
      have hdi : ds[i]? = some (ds[i]'(by omega)) := by simp
      refine wpOp_step ho (fun K hK => hstep i o hin ho vs w hvl hb (fun e he hbd => ?_) K (fun v w' hv hb' hp => ?_))
      · have hl := hall e he hbd
        have hlt : e.on < n := by
          rcases Nat.lt_or_ge e.on n with h | h
          · exact h
          · exfalso
            rcases Nat.lt_or_ge e.on (n + s) with h2 | h2
            · have := hst e.on h h2
              have hl2 : e.on < L.size := by omega
              simp only [Array.getD, hl2] at this hl
              simp at this hl
              rw [this] at hl; cases hl
            · have : ¬ e.on < L.size := by omega
              simp [Array.getD, this] at hl
        exact hf e.on hlt hl
      · apply hK
        rw [hdst, hdi, putAll_set hdn hdi (by omega)]
        have hset : ∀ j, i ≠ j → (L.setIfInBounds i true).getD j false = L.getD j false := fun j h => getD_set_ne false h
        refine ih (L.setIfInBounds i true) (vs.set i v) w' ?_ (by simpa using hs) ?_ ?_ (by simpa using hvl) (hb.trans (hb'.mono hb.size)) ?_ ?_ haln
        · have hf' : (L.toList.take n)[i]'(by simp; omega) = false := by
            simp only [List.getElem_take]
            simpa [Array.getD, hil] using hun
          have := count_false_set (L.toList.take n) i (by simp; omega) hf'
          rw [Array.toList_setIfInBounds, ← List.take_set] at *
          omega
        · intro j hj hj2
          rw [getD_set_ne true (by omega)]
          exact hst j hj hj2
        · intro j o' hjo hjl e he hbd
          by_cases hji : i = j
          · subst hji
            rw [ho] at hjo
            cases hjo
            exact getD_set_true (hall e he hbd)
          · rw [hset j hji] at hjl
            exact getD_set_true (hcl j o' hjo hjl e he hbd)
        · intro j hj hjl
          by_cases hji : i = j
          · subst hji
            rw [getD_set_list_self (by omega)]
            exact hv
          · rw [hset j hji] at hjl
            rw [getD_set_list hji]
            exact (f j).st _ _ _ (hf j hj hjl) hb'
        · intro j hj k hk hjn hkn hjk hjl hkl
          have old : ∀ x, x ∈ al → x < n → i ≠ x → (L.setIfInBounds i true).getD x false = true → vs.getD x undef ≠ .pointer (some ⟨w.heap.size, 0, none⟩) := fun x hx hxn hix hxl => by
            rw [hset x hix] at hxl
            obtain ⟨g, hg, hgl⟩ := hal x hx _ _ (hf x hxn hxl)
            rw [hg]
            intro e
            injection e with e
            injection e with e
            injection e with e
            omega
          by_cases hji : i = j
          · subst hji
            rw [getD_set_list_self (by omega), getD_set_list hjk, hp hj]
            exact (old k hk hkn hjk hkl).symm
          · by_cases hki : i = k
            · subst hki
              rw [getD_set_list_self (by omega), getD_set_list hji, hp hk]
              exact old j hj hjn hji hjl
            · rw [getD_set_list hji, getD_set_list hki]
              rw [hset j hji] at hjl
              rw [hset k hki] at hkl
              exact hdist j hj k hk hjn hkn hjk hjl hkl

theorem wp_region_late {P : Program} {ops : Array Oper} {Q : Exit → Act → World → Prop} {id : Nat} {a0 : Act} {w0 : World} (n s : Nat) (ds : List Tmp) (vs0 : List Value) (f : Nat → SFact) (al : List Nat) (hm : P.follows .mixedOrders = true)
    (hsize : ops.size = n + s) (hd : edgesDown .any ops = true) (late : Nat) (hln : late < n) (hsw : storesWaitBut .any ops n late = true) (hdn : ds.Nodup) (hlen : ds.length = n) (hds : dstsAre ops n ds = true) (hv0 : vs0.length = n) (haln : ∀ i ∈ al, i < n)
    (he : a0 = putAll a0 ds vs0) (hal : ∀ i ∈ al, ∀ v w, (f i).P v w → ∃ g, v = .pointer (some ⟨g, 0, none⟩) ∧ g < w.heap.size)
    (hstep : ∀ i o, i < n → ops[i]? = some o → ∀ vs w, vs.length = n → Below w0.heap.size w0 w → (∀ e ∈ o.after, Region.binds .any e = true → (f e.on).P (vs.getD e.on undef) w) →
      ∀ K : Act → World → Prop, Shut (∀ v w', (f i).P v w' → Below w.heap.size w w' → (i ∈ al → v = .pointer (some ⟨w.heap.size, 0, none⟩)) → K ((putAll a0 ds vs).put o.dst v) w') →
        if Region.wanted o (yielded ops (putAll a0 ds vs).tmps) = true then Oper.wp P o (putAll a0 ds vs) w K Q else K ((putAll a0 ds vs).put o.dst undef) w)
    (hend : ∀ vs w, vs.length = n → Below w0.heap.size w0 w → (∀ i, i < n → (f i).P (vs.getD i undef) w) → (∀ i ∈ al, ∀ j ∈ al, i ≠ j → vs.getD i undef ≠ vs.getD j undef) →
      wpAny P .any ops Q s ((List.replicate n true ++ List.replicate s false).toArray) (putAll a0 ds vs) w)
    (hlate : ∀ vs w, vs.length = n → Below w0.heap.size w0 w → (∀ i, i < n → i ≠ late → (f i).P (vs.getD i undef) w) → (∀ i ∈ al, ∀ j ∈ al, i ≠ j → i ≠ late → j ≠ late → vs.getD i undef ≠ vs.getD j undef) →
      wpAny P .any ops Q (s + 1) (((List.replicate n true).set late false ++ List.replicate s false).toArray) (putAll a0 ds vs) w) : (Code.region id ops true).wp P Q a0 w0 := by
  refine wp_region_any hm ?_
  have := wpAny_late (a0 := a0) (w0 := w0) n s hsize ds f al hd late hln hsw hdn hlen hds hal hstep hend hlate n (Array.replicate ops.size false) vs0 w0.drew
    (by rw [hsize]; simp [List.take_replicate, Nat.min_eq_left (Nat.le_add_right n s)]) (by simp [hsize]) (by intro j hj hj2; simp [Array.getD, hsize, hj2]) (by intro j o _ h; simp [Array.getD] at h) hv0 ((Below.refl _ _).drew)
    (by intro i _ h; simp [Array.getD] at h) (by intro i _ j _ _ _ _ h; simp [Array.getD] at h) haln
  rw [← he, ← hsize] at this
  exact this
theorem wpAny_two {P : Program} {ops : Array Oper} {Q : Exit → Act → World → Prop} {md : Region.Mode} {i j fuel : Nat} {o o' : Oper} {listed : Array Bool} {a : Act} {w : World} (hr : Region.ready md ops listed = [i, j]) (ho : ops[i]? = some o) (ho' : ops[j]? = some o')
    (h : ∀ K : Act → World → Prop, Shut (∀ a w, wpAny P md ops Q fuel (listed.setIfInBounds i true) a w → K a w) → if Region.wanted o (yielded ops a.tmps) = true then Oper.wp P o a w K Q else K (a.put o.dst undef) w)
    (h' : ∀ K : Act → World → Prop, Shut (∀ a w, wpAny P md ops Q fuel (listed.setIfInBounds j true) a w → K a w) → if Region.wanted o' (yielded ops a.tmps) = true then Oper.wp P o' a w K Q else K (a.put o'.dst undef) w) : wpAny P md ops Q (fuel + 1) listed a w := by
  refine ⟨fun h0 => (by rw [hr] at h0; cases h0), ?_⟩
  rw [hr]
  intro x hx
  simp only [List.mem_cons, List.not_mem_nil, or_false] at hx
  rcases hx with rfl | rfl
  · exact wpOp_step ho (fun K hK => h K hK)
  · exact wpOp_step ho' (fun K hK => h' K hK)
end Go.Proofs.Yteiniokddopacaa
/- ratio's calls on two fractions: Cmp, Add, Mul. -/
namespace Go.Proofs.Yteiniokddopacaa
open Go.RowKit Big

def pairF (p q : Int) : SFact := ⟨fun v w => PairAt w v p q, fun _ _ _ h hb => h.below hb⟩
def ratF (x : Rat) : SFact := ⟨fun v w => RatTold w v x, fun _ _ _ h hb => h.below hb⟩
def recF (B : Nat) (t : TypeId) : SFact := ⟨fun v w => ∃ g a b c d, v = .pointer (some ⟨g, 0, none⟩) ∧ Rec w g t #[a, b, c, d] ∧ (#[a, b, c, d] : Array Value).all nonInt = true ∧ B ≤ g, fun _ _ _ ⟨g, a, b, c, d, h1, h2, h3⟩ hb => ⟨g, a, b, c, d, h1, h2.below hb, h3⟩⟩
theorem len6 {vs : List Value} (h : vs.length = 6) : ∃ a b c d e f, vs = [a, b, c, d, e, f] := by
  match vs, h with
  | [a, b, c, d, e, f], _ => exact ⟨a, b, c, d, e, f, rfl⟩
theorem len11 {vs : List Value} (h : vs.length = 11) : ∃ a b c d e f g h i j k, vs = [a, b, c, d, e, f, g, h, i, j, k] := by
  match vs, h with
  | [a, b, c, d, e, f, g, h, i, j, k], _ => exact ⟨a, b, c, d, e, f, g, h, i, j, k, rfl⟩
theorem len12 {vs : List Value} (h : vs.length = 12) : ∃ a b c d e f g h i j k l, vs = [a, b, c, d, e, f, g, h, i, j, k, l] := by
  match vs, h with
  | [a, b, c, d, e, f, g, h, i, j, k, l], _ => exact ⟨a, b, c, d, e, f, g, h, i, j, k, l, rfl⟩
/-- block g is a variable that holds this pair -/
def PairVar (w : World) (g : Nat) (p q : Int) : Prop := ∃ b p0 n0 c0 b' p1 n1 c1, Rec w g 51 #[.bool b, .slice p0 n0 c0, .bool b', .slice p1 n1 c1] ∧ RawAt w (.agg #[.bool b, .slice p0 n0 c0]) p ∧ RawAt w (.agg #[.bool b', .slice p1 n1 c1]) q
theorem PairVar.below {w w' : World} {g : Nat} {p q : Int} (h : PairVar w g p q) (hb : Below w.heap.size w w') : PairVar w' g p q := by
  obtain ⟨b, p0, n0, c0, b', p1, n1, c1, hr, h0, h1⟩ := h
  exact ⟨b, p0, n0, c0, b', p1, n1, c1, hr.below hb, h0.below hb, h1.below hb⟩
theorem PairVar.lt {w : World} {g : Nat} {p q : Int} (h : PairVar w g p q) : g < w.heap.size := by
  obtain ⟨b, p0, n0, c0, b', p1, n1, c1, hr, -⟩ := h
  exact hr.lt
theorem PairVar.stay {w w' : World} {g g' : Nat} {p q : Int} (h : PairVar w g p q) (hs : Stay w w' g') (hne : g ≠ g') : PairVar w' g p q := by
  obtain ⟨b, p0, n0, c0, b', p1, n1, c1, hr, h0, h1⟩ := h
  exact ⟨b, p0, n0, c0, b', p1, n1, c1, hs.rcs _ _ _ hne hr, hs.raw _ _ h0, hs.raw _ _ h1⟩
theorem dn_pos {q : Int} (h : 0 ≤ q) : 0 < dn q := by unfold dn; split <;> omega
theorem RatRaw.den {w : World} {v : Value} {p q : Int} (h : RatRaw w v p q) : 0 ≤ q := by
  obtain ⟨b, p0, n0, c0, p1, n1, c1, -, -, h1⟩ := h
  obtain ⟨neg, s, l, hv, -, -, -, rfl⟩ := h1
  injection hv with hv
  simp at hv
  obtain ⟨hv1, -⟩ := hv
  subst hv1
  simp [sg]
theorem sz_dn {q : Int} {k : Nat} (h : sz W q.natAbs ≤ k) (hk : 1 ≤ k) : sz W (dn q).natAbs ≤ k := by
  unfold dn
  split
  · exact Nat.le_trans (by decide) hk
  · exact h
theorem sz_mul2 {a b : Int} {k : Nat} (ha : sz W a.natAbs ≤ k) (hb : sz W b.natAbs ≤ k) : sz W (a * b).natAbs ≤ 2 * k := by
  rw [Int.natAbs_mul]
  exact Nat.le_trans (sz_mul W2 _ _) (by omega)
theorem sz_add2 {a b : Int} {k : Nat} (ha : sz W a.natAbs ≤ k) (hb : sz W b.natAbs ≤ k) : sz W (a + b).natAbs ≤ k + 1 := Nat.le_trans (sz_mono W2 (Int.natAbs_add_le a b)) (sz_add W2 ha hb)

set_option maxRecDepth 100000 in
set_option maxHeartbeats 3200000 in
theorem QCmp_any (v0 v1 : Value) (p q r s : Int) (w : World) (h0 : RatRaw w v0 p q) (h1 : RatRaw w v1 r s) (l0 : sz W p.natAbs ≤ 1000) (l1 : sz W q.natAbs ≤ 1000) (l2 : sz W r.natAbs ≤ 1000) (l3 : sz W s.natAbs ≤ 1000) :
    Calls Try.prog 21 #[v0, v1] w (RNum .i64 (cq (Rat.divInt p (dn q)) (Rat.divInt r (dn s))) w) := by
  have hcq := cq_ord (p := p) (r := r) (dn_pos h0.den) (dn_pos h1.den)
  have l1' := sz_dn l1 (by decide)
  have l3' := sz_dn l3 (by decide)
  have la := hid (sz_mul2 l0 l3'); have lb := hid (sz_mul2 l2 l1')
  rw [← hcq]
  clear hcq
  obtain ⟨b, p0, n0, c0, p1, n1, c1, rfl, ha0, ha1⟩ := id h0
  obtain ⟨b', p2, n2, c2, p3, n3, c3, rfl, hb0, hb1⟩ := id h1
  have HRA := hid h0; have HRB := hid h1
  clear ha0 ha1 hb0 hb1 h0 h1
  go_enter Try.func21, Try.ntmps21
  go_upto_region 1 with fail
  generalize hW : World.alloc (World.alloc w _) _ = W0
  have bw : Below w.heap.size w W0 := by rw [← hW]; exact (below1 _ _).alloc (by simp) _
  have ra : Rec W0 w.heap.size 29 #[.bool b, .slice p0 n0 c0, .slice p1 n1 c1] := by
    rw [← hW]; exact ((Rec.new ..).below (below1 _ _))
  have rb : Rec W0 (w.heap.size + 1) 29 #[.bool b', .slice p2 n2 c2, .slice p3 n3 c3] := by
    rw [← hW]
    have := (Rec.new (w.alloc (.cells #[.bool b, .slice p0 n0 c0, .slice p1 n1 c1] 29)) #[.bool b', .slice p2 n2 c2, .slice p3 n3 c3] 29)
    rw [size_alloc] at this
    exact this
  have HS : Hid (∀ w', Below W0.heap.size W0 w' → w'.cell? ⟨w.heap.size, 0, none⟩ = some (.bool b) ∧ w'.cell? ⟨w.heap.size, 1, none⟩ = some (.slice p0 n0 c0) ∧ w'.cell? ⟨w.heap.size, 2, none⟩ = some (.slice p1 n1 c1) ∧
      w'.cell? ⟨w.heap.size + 1, 0, none⟩ = some (.bool b') ∧ w'.cell? ⟨w.heap.size + 1, 1, none⟩ = some (.slice p2 n2 c2) ∧ w'.cell? ⟨w.heap.size + 1, 2, none⟩ = some (.slice p3 n3 c3)) := by
    intro w' hb
    have xa := cells3 (ra.below hb)
    have xb := cells3 (rb.below hb)
    exact ⟨xa.1, xa.2.1, xa.2.2, xb.1, xb.2.1, xb.2.2⟩
  have HRA := hid (HRA.out.below bw); have HRB := hid (HRB.out.below bw); have Hbw := hid bw
  clear hW ra rb bw
  go_upto_region 1 with fail
  go_cut [5, 6] (fun s5 s6 wx => ∃ g5 g6, s5 = .pointer (some ⟨g5, 0, none⟩) ∧ s6 = .pointer (some ⟨g6, 0, none⟩) ∧ g5 ≠ g6 ∧ W0.heap.size ≤ g5 ∧ W0.heap.size ≤ g6 ∧ PairVar wx g5 p (dn q) ∧ PairVar wx g6 r (dn s) ∧ Below W0.heap.size W0 wx)
  case first =>
    rename_i Jc Kc hJc hKc
    refine wp_region_facts (w0 := W0) 6 2 [7, 8, 9, 10, 5, 6] [undef, undef, undef, undef, undef, undef]
      (fun i => match i with | 0 => eqF (.agg #[.bool b, .slice p0 n0 c0, .slice p1 n1 c1]) | 1 => pairF p (dn q) | 2 => eqF (.agg #[.bool b', .slice p2 n2 c2, .slice p3 n3 c3]) | 3 => pairF r (dn s) | 4 => recF W0.heap.size 51 | _ => recF W0.heap.size 51) [4, 5] (by kernel_rfl) (by kernel_rfl) (by kernel_rfl) (by kernel_rfl) (by decide) rfl (by kernel_rfl) rfl (by simp) ?he1 ?_ ?_ ?_
    case he1 => simp only [putAll, Act.put, List.setIfInBounds_toArray, List.set_cons_zero, List.set_cons_succ]
    · intro i hi v w' h
      simp only [List.mem_cons, List.not_mem_nil, or_false] at hi
      rcases hi with rfl | rfl
      · obtain ⟨g, x1, x2, x3, x4, hg, hp, -⟩ := (show (recF W0.heap.size 51).P v w' from h); exact ⟨g, hg, hp.lt⟩
      · obtain ⟨g, x1, x2, x3, x4, hg, hp, -⟩ := (show (recF W0.heap.size 51).P v w' from h); exact ⟨g, hg, hp.lt⟩
    · intro i o hi ho vs wx hvl hb hdep K hK
      have hvs := len6 hvl
      obtain ⟨s7, s8, s9, s10, s5, s6, rfl⟩ := hvs
      clear hvl
      have hk := HS.out wx hb
      go_split_ands
      rcases i with _ | _ | _ | _ | _ | _ | i
      all_goals (simp only [List.getElem?_toArray, List.getElem?_cons_zero, List.getElem?_cons_succ, Option.some.injEq] at ho)
      all_goals try (subst ho)
      all_goals try simp only [putAll, Act.put, List.setIfInBounds_toArray, List.set_cons_zero, List.set_cons_succ]
      · go_simp
        have hK' := hK.out
        simp only [putAll, Act.put, List.setIfInBounds_toArray, List.set_cons_zero, List.set_cons_succ] at hK'
        exact hK' _ _ rfl (Below.refl _ _) (by simp)
      · have e0 : s7 = _ := hdep ⟨0, .data⟩ (by simp) rfl
        subst e0
        go_simp
        refine (read_any _ p q _ (HRA.out.below hb)).mono ?_
        rintro e wy ⟨vy, rfl, iy, hby⟩
        obtain ⟨e1, e2, e3, e4, e5, e6, e7, e8, rfl, iy0, iy1⟩ := iy
        go_wp2_with fail
        have hK' := hK.out
        simp only [putAll, Act.put, List.setIfInBounds_toArray, List.set_cons_zero, List.set_cons_succ] at hK'
        exact hK' _ _ ⟨_, _, _, _, _, _, _, _, rfl, iy0, iy1⟩ hby (by simp)
      · go_simp
        have hK' := hK.out
        simp only [putAll, Act.put, List.setIfInBounds_toArray, List.set_cons_zero, List.set_cons_succ] at hK'
        exact hK' _ _ rfl (Below.refl _ _) (by simp)
      · have e2 : s9 = _ := hdep ⟨2, .data⟩ (by simp) rfl
        subst e2
        go_simp
        refine (read_any _ r s _ (HRB.out.below hb)).mono ?_
        rintro e wy ⟨vy, rfl, iy, hby⟩
        obtain ⟨e1, e2, e3, e4, e5, e6, e7, e8, rfl, iy0, iy1⟩ := iy
        go_wp2_with fail
        have hK' := hK.out
        simp only [putAll, Act.put, List.setIfInBounds_toArray, List.set_cons_zero, List.set_cons_succ] at hK'
        exact hK' _ _ ⟨_, _, _, _, _, _, _, _, rfl, iy0, iy1⟩ hby (by simp)
      · go_simp
        have hK' := hK.out
        simp only [putAll, Act.put, List.setIfInBounds_toArray, List.set_cons_zero, List.set_cons_succ] at hK'
        exact hK' _ _ ⟨_, _, _, _, _, rfl, Rec.new .., by simp [nonInt], hb.size⟩ (below1 _ _) (fun _ => rfl)
      · go_simp
        have hK' := hK.out
        simp only [putAll, Act.put, List.setIfInBounds_toArray, List.set_cons_zero, List.set_cons_succ] at hK'
        exact hK' _ _ ⟨_, _, _, _, _, rfl, Rec.new .., by simp [nonInt], hb.size⟩ (below1 _ _) (fun _ => rfl)
      · omega
    · intro vs wx hvl hb hf hdist
      have hvs := len6 hvl
      obtain ⟨s7, s8, s9, s10, s5, s6, rfl⟩ := hvs
      have k1 : PairAt wx s8 p (dn q) := hf 1 (by decide)
      have k3 : PairAt wx s10 r (dn s) := hf 3 (by decide)
      have k4 : (recF W0.heap.size 51).P s5 wx := hf 4 (by decide)
      have k5 : (recF W0.heap.size 51).P s6 wx := hf 5 (by decide)
      have hne : s5 ≠ s6 := hdist 4 (by simp) 5 (by simp) (by decide)
      obtain ⟨e1, e2, e3, e4, e5, e6, e7, e8, rfl, i1, i2⟩ := k1
      obtain ⟨f1, f2, f3, f4, f5, f6, f7, f8, rfl, j1, j2⟩ := k3
      obtain ⟨g5, xa, xb, xc, xd, rfl, rec5, non5, hB5⟩ := k4
      obtain ⟨g6, ya, yb, yc, yd, rfl, rec6, non6, hB6⟩ := k5
      have hgne : g5 ≠ g6 := fun e => hne (by rw [e])
      clear hf hdist hvl hne
      have c5 := cells4 rec5
      obtain ⟨x0, x1, x2, x3⟩ := c5
      have f5x := frozen4 rec5
      obtain ⟨y0, y1, y2, y3⟩ := f5x
      refine wpAny_one (i := 6) (by kernel_rfl) rfl ?_
      intro K hK
      simp only [putAll, Act.put, List.setIfInBounds_toArray, List.set_cons_zero, List.set_cons_succ]
      go_simp
      have hK' := hK.out
      apply hK'
      clear hK hK'
      have m5 := put4 rec5 non5 (.bool e1) (.slice e2 e3 e4) (.bool e5) (.slice e6 e7 e8) (by simp [nonInt])
      have i1 := m5.2.raw _ _ i1; have i2 := m5.2.raw _ _ i2; have j1 := m5.2.raw _ _ j1; have j2 := m5.2.raw _ _ j2
      have rec6 := m5.2.rcs _ _ _ hgne.symm rec6
      have hb := m5.2.bel W0.heap.size W0 hB5 hb
      have rec5 := m5.1
      clear m5 x0 x1 x2 x3 y0 y1 y2 y3
      generalize ((((wx.setCell ⟨g5, 0, none⟩ (.bool e1)).setCell ⟨g5, 1, none⟩ (.slice e2 e3 e4)).setCell ⟨g5, 2, none⟩ (.bool e5)).setCell ⟨g5, 3, none⟩ (.slice e6 e7 e8)) = wy at *
      have c6 := cells4 rec6
      obtain ⟨x0, x1, x2, x3⟩ := c6
      have f6x := frozen4 rec6
      obtain ⟨y0, y1, y2, y3⟩ := f6x
      refine wpAny_one (i := 7) (by kernel_rfl) rfl ?_
      intro K hK
      go_simp
      have hK' := hK.out
      apply hK'
      clear hK hK'
      have m6 := put4 rec6 non6 (.bool f1) (.slice f2 f3 f4) (.bool f5) (.slice f6 f7 f8) (by simp [nonInt])
      refine wpAny_done (by kernel_rfl) ?_ _
      refine hKc _ _ (Met.intro (hJc _ _ ?_))
      (repeat apply Exists.intro)
      exact ⟨⟨g5, g6, rfl, rfl, hgne, hB5, hB6, ⟨_, _, _, _, _, _, _, _, m6.2.rcs _ _ _ hgne rec5, m6.2.raw _ _ i1, m6.2.raw _ _ i2⟩, ⟨_, _, _, _, _, _, _, _, m6.1, m6.2.raw _ _ j1, m6.2.raw _ _ j2⟩, m6.2.bel W0.heap.size W0 hB6 hb⟩, rfl⟩
  case rest =>
    obtain ⟨g5, g6, rfl, rfl, hgne, hB5, hB6, V5, V6, hbc⟩ := hcut
    obtain ⟨e1, e2, e3, e4, e5, e6, e7, e8, rec5, A1, A2⟩ := V5
    obtain ⟨f1, f2, f3, f4, f5, f6, f7, f8, rec6, B1, B2⟩ := V6
    have Hrec5 := hid rec5; have Hrec6 := hid rec6
    have HA1 := hid A1; have HA2 := hid A2; have HB1 := hid B1; have HB2 := hid B2; have Hbc := hid hbc
    have HS2 : Hid (∀ w', Below wc.heap.size wc w' → w'.cell? ⟨g5, 0, none⟩ = some (.bool e1) ∧ w'.cell? ⟨g5, 1, none⟩ = some (.slice e2 e3 e4) ∧ w'.cell? ⟨g5, 2, none⟩ = some (.bool e5) ∧ w'.cell? ⟨g5, 3, none⟩ = some (.slice e6 e7 e8) ∧
        w'.cell? ⟨g6, 0, none⟩ = some (.bool f1) ∧ w'.cell? ⟨g6, 1, none⟩ = some (.slice f2 f3 f4) ∧ w'.cell? ⟨g6, 2, none⟩ = some (.bool f5) ∧ w'.cell? ⟨g6, 3, none⟩ = some (.slice f6 f7 f8)) := by
      intro w' hb
      have xa := cells4 (Hrec5.out.below hb)
      have xb := cells4 (Hrec6.out.below hb)
      exact ⟨xa.1, xa.2.1, xa.2.2.1, xa.2.2.2, xb.1, xb.2.1, xb.2.2.1, xb.2.2.2⟩
    clear rec5 rec6 A1 A2 B1 B2 hbc HS HRA HRB Hrec5 Hrec6
    have HSB : Hid (∀ w', Below wc.heap.size wc w' → w'.cell? ⟨g5, 0, none⟩ = some (.bool e1) ∧ w'.cell? ⟨g5, 1, none⟩ = some (.slice e2 e3 e4) ∧ w'.cell? ⟨g5, 2, none⟩ = some (.bool e5) ∧ w'.cell? ⟨g5, 3, none⟩ = some (.slice e6 e7 e8) ∧
        w'.cell? ⟨g6, 0, none⟩ = some (.bool f1) ∧ w'.cell? ⟨g6, 1, none⟩ = some (.slice f2 f3 f4) ∧ w'.cell? ⟨g6, 2, none⟩ = some (.bool f5) ∧ w'.cell? ⟨g6, 3, none⟩ = some (.slice f6 f7 f8) ∧ Below wc.heap.size wc w') := by
      intro w' hb
      obtain ⟨a1, a2, a3, a4, a5, a6, a7, a8⟩ := HS2.out w' hb
      exact ⟨a1, a2, a3, a4, a5, a6, a7, a8, hb⟩
    go_upto_region 2 with fail
    go_region_held3 (fun w' => w'.cell? ⟨g5, 0, none⟩ = some (.bool e1) ∧ w'.cell? ⟨g5, 1, none⟩ = some (.slice e2 e3 e4) ∧ w'.cell? ⟨g5, 2, none⟩ = some (.bool e5) ∧ w'.cell? ⟨g5, 3, none⟩ = some (.slice e6 e7 e8) ∧
        w'.cell? ⟨g6, 0, none⟩ = some (.bool f1) ∧ w'.cell? ⟨g6, 1, none⟩ = some (.slice f2 f3 f4) ∧ w'.cell? ⟨g6, 2, none⟩ = some (.bool f5) ∧ w'.cell? ⟨g6, 3, none⟩ = some (.slice f6 f7 f8) ∧ Below wc.heap.size wc w')
      (first | exact HSB.out _ (Below.drew (Below.refl _ _)) | (refine HSB.out _ (Below.go hb ?_); go_split_ands; assumption))
      (first
        | (go_at_call_of 46 (e2); refine (Mul_any _ _ p (dn s) _ (HA1.out.below (by go_split_ands; assumption)) (HB2.out.below (by go_split_ands; assumption)) (by omega) (by omega)).mono ?_; rintro e wa ⟨v1, rfl, i1, hb⟩; have r1 := i1.raw (by have := la.out; omega))
        | (go_at_call_of 46 (f2); refine (Mul_any _ _ r (dn q) _ (HB1.out.below (by go_split_ands; assumption)) (HA2.out.below (by go_split_ands; assumption)) (by omega) (by omega)).mono ?_; rintro e wa ⟨v2, rfl, i2, hb⟩; have r2 := i2.raw (by have := lb.out; omega))
        | (go_at_call 52; refine (Cmp_any _ _ (p * dn s) (r * dn q) _ (r1.below (by go_split_ands; assumption)) r2).mono ?_; rintro e wb ⟨rfl, hb⟩))
    rename_i hHeld
    go_split_ands
    have HBf := hid (show Below wc.heap.size wc wb by assumption)
    go_wp2_with fail
    go_ret
    exact ⟨rfl, Hbw.out.trans ((Hbc.out.trans (HBf.out.mono (B' := W0.heap.size) Hbc.out.size)).mono (B' := w.heap.size) Hbw.out.size)⟩

end Go.Proofs.Yteiniokddopacaa
/- ratio.Mul and Add. -/
namespace Go.Proofs.Yteiniokddopacaa
open Go.RowKit Big

set_option maxRecDepth 100000 in
set_option maxHeartbeats 6400000 in
theorem QMul_any (v0 v1 : Value) (p q r s : Int) (w : World) (h0 : RatRaw w v0 p q) (h1 : RatRaw w v1 r s) (l0 : sz W p.natAbs ≤ 1000) (l1 : sz W q.natAbs ≤ 1000) (l2 : sz W r.natAbs ≤ 1000) (l3 : sz W s.natAbs ≤ 1000) :
    Calls Try.prog 26 #[v0, v1] w (RRat (Rat.divInt p (dn q) * Rat.divInt r (dn s)) w) := by
  have hx : Rat.divInt p (dn q) * Rat.divInt r (dn s) = Rat.divInt (p * r) (dn q * dn s) := Rat.divInt_mul_divInt _ _
  have hne : dn q * dn s ≠ 0 := by
    have := Int.mul_pos (dn_pos h0.den) (dn_pos h1.den)
    omega
  rw [hx]
  have Hne := hid hne
  have l1' := sz_dn l1 (by decide)
  have l3' := sz_dn l3 (by decide)
  have la := hid (sz_mul2 l0 l2); have lb := hid (sz_mul2 l1' l3')
  clear hx hne
  obtain ⟨b, p0, n0, c0, p1, n1, c1, rfl, ha0, ha1⟩ := id h0
  obtain ⟨b', p2, n2, c2, p3, n3, c3, rfl, hb0, hb1⟩ := id h1
  have HRA := hid h0; have HRB := hid h1
  clear ha0 ha1 hb0 hb1 h0 h1
  go_enter Try.func26, Try.ntmps26
  go_upto_region 1 with fail
  generalize hW : World.alloc (World.alloc (World.alloc w _) _) _ = W0
  have bw : Below w.heap.size w W0 := by rw [← hW]; exact ((below1 _ _).alloc (by simp) _).alloc (by simp; omega) _
  have ra : Rec W0 w.heap.size 29 #[.bool b, .slice p0 n0 c0, .slice p1 n1 c1] := by
    rw [← hW]; exact ((Rec.new ..).below (below1 _ _)).below (below1 _ _)
  have rb : Rec W0 (w.heap.size + 1) 29 #[.bool b', .slice p2 n2 c2, .slice p3 n3 c3] := by
    rw [← hW]
    have := (Rec.new (w.alloc (.cells #[.bool b, .slice p0 n0 c0, .slice p1 n1 c1] 29)) #[.bool b', .slice p2 n2 c2, .slice p3 n3 c3] 29)
    rw [size_alloc] at this
    exact this.below (below1 _ _)
  have rz : Rec W0 (w.heap.size + 1 + 1) 29 #[.bool false, .slice none 0 0, .slice none 0 0] := by
    rw [← hW]
    have := Rec.new ((w.alloc (.cells #[.bool b, .slice p0 n0 c0, .slice p1 n1 c1] 29)).alloc (.cells #[.bool b', .slice p2 n2 c2, .slice p3 n3 c3] 29)) #[.bool false, .slice none 0 0, .slice none 0 0] 29
    rwa [size_alloc, size_alloc] at this
  have Hrz := hid rz
  clear rz
  have HS : Hid (∀ w', Below W0.heap.size W0 w' → w'.cell? ⟨w.heap.size, 0, none⟩ = some (.bool b) ∧ w'.cell? ⟨w.heap.size, 1, none⟩ = some (.slice p0 n0 c0) ∧ w'.cell? ⟨w.heap.size, 2, none⟩ = some (.slice p1 n1 c1) ∧
      w'.cell? ⟨w.heap.size + 1, 0, none⟩ = some (.bool b') ∧ w'.cell? ⟨w.heap.size + 1, 1, none⟩ = some (.slice p2 n2 c2) ∧ w'.cell? ⟨w.heap.size + 1, 2, none⟩ = some (.slice p3 n3 c3)) := by
    intro w' hb
    have xa := cells3 (ra.below hb)
    have xb := cells3 (rb.below hb)
    exact ⟨xa.1, xa.2.1, xa.2.2, xb.1, xb.2.1, xb.2.2⟩
  have HRA := hid (HRA.out.below bw); have HRB := hid (HRB.out.below bw); have Hbw := hid bw
  clear hW ra rb bw
  go_upto_region 1 with fail
  go_cut [5, 6] (fun s5 s6 wx => ∃ g5 g6, s5 = .pointer (some ⟨g5, 0, none⟩) ∧ s6 = .pointer (some ⟨g6, 0, none⟩) ∧ g5 ≠ g6 ∧ W0.heap.size ≤ g5 ∧ W0.heap.size ≤ g6 ∧ PairVar wx g5 p (dn q) ∧ PairVar wx g6 r (dn s) ∧ Below W0.heap.size W0 wx)
  case first =>
    rename_i Jc Kc hJc hKc
    refine wp_region_facts (w0 := W0) 6 2 [7, 8, 9, 10, 5, 6] [undef, undef, undef, undef, undef, undef]
      (fun i => match i with | 0 => eqF (.agg #[.bool b, .slice p0 n0 c0, .slice p1 n1 c1]) | 1 => pairF p (dn q) | 2 => eqF (.agg #[.bool b', .slice p2 n2 c2, .slice p3 n3 c3]) | 3 => pairF r (dn s) | 4 => recF W0.heap.size 51 | _ => recF W0.heap.size 51) [4, 5] (by kernel_rfl) (by kernel_rfl) (by kernel_rfl) (by kernel_rfl) (by decide) rfl (by kernel_rfl) rfl (by simp) ?he2 ?_ ?_ ?_
    case he2 => simp only [putAll, Act.put, List.setIfInBounds_toArray, List.set_cons_zero, List.set_cons_succ]
    · intro i hi v w' h
      simp only [List.mem_cons, List.not_mem_nil, or_false] at hi
      rcases hi with rfl | rfl
      · obtain ⟨g, x1, x2, x3, x4, hg, hp, -⟩ := (show (recF W0.heap.size 51).P v w' from h); exact ⟨g, hg, hp.lt⟩
      · obtain ⟨g, x1, x2, x3, x4, hg, hp, -⟩ := (show (recF W0.heap.size 51).P v w' from h); exact ⟨g, hg, hp.lt⟩
    · intro i o hi ho vs wx hvl hb hdep K hK
      have hvs := len6 hvl
      obtain ⟨s7, s8, s9, s10, s5, s6, rfl⟩ := hvs
      clear hvl
      have hk := HS.out wx hb
      go_split_ands
      rcases i with _ | _ | _ | _ | _ | _ | i
      all_goals (simp only [List.getElem?_toArray, List.getElem?_cons_zero, List.getElem?_cons_succ, Option.some.injEq] at ho)
      all_goals try (subst ho)
      all_goals try simp only [putAll, Act.put, List.setIfInBounds_toArray, List.set_cons_zero, List.set_cons_succ]
      · go_simp
        have hK' := hK.out
        simp only [putAll, Act.put, List.setIfInBounds_toArray, List.set_cons_zero, List.set_cons_succ] at hK'
        exact hK' _ _ rfl (Below.refl _ _) (by simp)
      · have e0 : s7 = _ := hdep ⟨0, .data⟩ (by simp) rfl
        subst e0
        go_simp
        refine (read_any _ p q _ (HRA.out.below hb)).mono ?_
        rintro e wy ⟨vy, rfl, iy, hby⟩
        obtain ⟨e1, e2, e3, e4, e5, e6, e7, e8, rfl, iy0, iy1⟩ := iy
        go_wp2_with fail
        have hK' := hK.out
        simp only [putAll, Act.put, List.setIfInBounds_toArray, List.set_cons_zero, List.set_cons_succ] at hK'
        exact hK' _ _ ⟨_, _, _, _, _, _, _, _, rfl, iy0, iy1⟩ hby (by simp)
      · go_simp
        have hK' := hK.out
        simp only [putAll, Act.put, List.setIfInBounds_toArray, List.set_cons_zero, List.set_cons_succ] at hK'
        exact hK' _ _ rfl (Below.refl _ _) (by simp)
      · have e2 : s9 = _ := hdep ⟨2, .data⟩ (by simp) rfl
        subst e2
        go_simp
        refine (read_any _ r s _ (HRB.out.below hb)).mono ?_
        rintro e wy ⟨vy, rfl, iy, hby⟩
        obtain ⟨e1, e2, e3, e4, e5, e6, e7, e8, rfl, iy0, iy1⟩ := iy
        go_wp2_with fail
        have hK' := hK.out
        simp only [putAll, Act.put, List.setIfInBounds_toArray, List.set_cons_zero, List.set_cons_succ] at hK'
        exact hK' _ _ ⟨_, _, _, _, _, _, _, _, rfl, iy0, iy1⟩ hby (by simp)
      · go_simp
        have hK' := hK.out
        simp only [putAll, Act.put, List.setIfInBounds_toArray, List.set_cons_zero, List.set_cons_succ] at hK'
        exact hK' _ _ ⟨_, _, _, _, _, rfl, Rec.new .., by simp [nonInt], hb.size⟩ (below1 _ _) (fun _ => rfl)
      · go_simp
        have hK' := hK.out
        simp only [putAll, Act.put, List.setIfInBounds_toArray, List.set_cons_zero, List.set_cons_succ] at hK'
        exact hK' _ _ ⟨_, _, _, _, _, rfl, Rec.new .., by simp [nonInt], hb.size⟩ (below1 _ _) (fun _ => rfl)
      · omega
    · intro vs wx hvl hb hf hdist
      have hvs := len6 hvl
      obtain ⟨s7, s8, s9, s10, s5, s6, rfl⟩ := hvs
      have k1 : PairAt wx s8 p (dn q) := hf 1 (by decide)
      have k3 : PairAt wx s10 r (dn s) := hf 3 (by decide)
      have k4 : (recF W0.heap.size 51).P s5 wx := hf 4 (by decide)
      have k5 : (recF W0.heap.size 51).P s6 wx := hf 5 (by decide)
      have hne : s5 ≠ s6 := hdist 4 (by simp) 5 (by simp) (by decide)
      obtain ⟨e1, e2, e3, e4, e5, e6, e7, e8, rfl, i1, i2⟩ := k1
      obtain ⟨f1, f2, f3, f4, f5, f6, f7, f8, rfl, j1, j2⟩ := k3
      obtain ⟨g5, xa, xb, xc, xd, rfl, rec5, non5, hB5⟩ := k4
      obtain ⟨g6, ya, yb, yc, yd, rfl, rec6, non6, hB6⟩ := k5
      have hgne : g5 ≠ g6 := fun e => hne (by rw [e])
      clear hf hdist hvl hne
      have c5 := cells4 rec5
      obtain ⟨x0, x1, x2, x3⟩ := c5
      have f5x := frozen4 rec5
      obtain ⟨y0, y1, y2, y3⟩ := f5x
      refine wpAny_one (i := 6) (by kernel_rfl) rfl ?_
      intro K hK
      simp only [putAll, Act.put, List.setIfInBounds_toArray, List.set_cons_zero, List.set_cons_succ]
      go_simp
      have hK' := hK.out
      apply hK'
      clear hK hK'
      have m5 := put4 rec5 non5 (.bool e1) (.slice e2 e3 e4) (.bool e5) (.slice e6 e7 e8) (by simp [nonInt])
      have i1 := m5.2.raw _ _ i1; have i2 := m5.2.raw _ _ i2; have j1 := m5.2.raw _ _ j1; have j2 := m5.2.raw _ _ j2
      have rec6 := m5.2.rcs _ _ _ hgne.symm rec6
      have hb := m5.2.bel W0.heap.size W0 hB5 hb
      have rec5 := m5.1
      clear m5 x0 x1 x2 x3 y0 y1 y2 y3
      generalize ((((wx.setCell ⟨g5, 0, none⟩ (.bool e1)).setCell ⟨g5, 1, none⟩ (.slice e2 e3 e4)).setCell ⟨g5, 2, none⟩ (.bool e5)).setCell ⟨g5, 3, none⟩ (.slice e6 e7 e8)) = wy at *
      have c6 := cells4 rec6
      obtain ⟨x0, x1, x2, x3⟩ := c6
      have f6x := frozen4 rec6
      obtain ⟨y0, y1, y2, y3⟩ := f6x
      refine wpAny_one (i := 7) (by kernel_rfl) rfl ?_
      intro K hK
      go_simp
      have hK' := hK.out
      apply hK'
      clear hK hK'
      have m6 := put4 rec6 non6 (.bool f1) (.slice f2 f3 f4) (.bool f5) (.slice f6 f7 f8) (by simp [nonInt])
      refine wpAny_done (by kernel_rfl) ?_ _
      refine hKc _ _ (Met.intro (hJc _ _ ?_))
      (repeat apply Exists.intro)
      exact ⟨⟨g5, g6, rfl, rfl, hgne, hB5, hB6, ⟨_, _, _, _, _, _, _, _, m6.2.rcs _ _ _ hgne rec5, m6.2.raw _ _ i1, m6.2.raw _ _ i2⟩, ⟨_, _, _, _, _, _, _, _, m6.1, m6.2.raw _ _ j1, m6.2.raw _ _ j2⟩, m6.2.bel W0.heap.size W0 hB6 hb⟩, rfl⟩
  case rest =>
    obtain ⟨g5, g6, rfl, rfl, hgne, hB5, hB6, V5, V6, hbc⟩ := hcut
    obtain ⟨e1, e2, e3, e4, e5, e6, e7, e8, rec5, A1, A2⟩ := V5
    obtain ⟨f1, f2, f3, f4, f5, f6, f7, f8, rec6, B1, B2⟩ := V6
    have Hrec5 := hid rec5; have Hrec6 := hid rec6
    have HA1 := hid A1; have HA2 := hid A2; have HB1 := hid B1; have HB2 := hid B2; have Hbc := hid hbc
    have HS2 : Hid (∀ w', Below wc.heap.size wc w' → w'.cell? ⟨g5, 0, none⟩ = some (.bool e1) ∧ w'.cell? ⟨g5, 1, none⟩ = some (.slice e2 e3 e4) ∧ w'.cell? ⟨g5, 2, none⟩ = some (.bool e5) ∧ w'.cell? ⟨g5, 3, none⟩ = some (.slice e6 e7 e8) ∧
        w'.cell? ⟨g6, 0, none⟩ = some (.bool f1) ∧ w'.cell? ⟨g6, 1, none⟩ = some (.slice f2 f3 f4) ∧ w'.cell? ⟨g6, 2, none⟩ = some (.bool f5) ∧ w'.cell? ⟨g6, 3, none⟩ = some (.slice f6 f7 f8)) := by
      intro w' hb
      have xa := cells4 (Hrec5.out.below hb)
      have xb := cells4 (Hrec6.out.below hb)
      exact ⟨xa.1, xa.2.1, xa.2.2.1, xa.2.2.2, xb.1, xb.2.1, xb.2.2.1, xb.2.2.2⟩
    clear rec5 rec6 A1 A2 B1 B2 hbc HS HRA HRB Hrec5 Hrec6
    have HRZ := hid (Hrz.out.below Hbc.out)
    have HBW := hid (Hbw.out.trans (Hbc.out.mono (B' := w.heap.size) Hbw.out.size))
    go_upto_region 2 with fail
    refine wp_region_facts (w0 := wc) 12 1 [11, 12, 13, 14, 15, 16, 17, 18, 19, 20, 21, 22] [u11, u12, u13, u14, u15, u16, u17, u18, u19, u20, u21, u22]
      (fun i => match i with | 0 => eqF (.pointer (some ⟨g5, 0, none⟩)) | 1 => eqF (.agg #[.bool e1, .slice e2 e3 e4]) | 2 => eqF (.pointer (some ⟨g6, 0, none⟩)) | 3 => eqF (.agg #[.bool f1, .slice f2 f3 f4]) | 4 => intF (p * r) | 5 => eqF (.pointer (some ⟨g5, 2, none⟩)) | 6 => eqF (.agg #[.bool e5, .slice e6 e7 e8]) | 7 => eqF (.pointer (some ⟨g6, 2, none⟩)) | 8 => eqF (.agg #[.bool f5, .slice f6 f7 f8]) | 9 => intF (dn q * dn s) | 10 => pairF (p * r) (dn q * dn s) | _ => ratF (Rat.divInt (p * r) (dn q * dn s))) [] (by kernel_rfl) (by kernel_rfl) (by kernel_rfl) (by kernel_rfl) (by decide) rfl (by kernel_rfl) rfl (by simp) ?he3 ?_ ?_ ?_
    case he3 => simp only [putAll, Act.put, List.setIfInBounds_toArray, List.set_cons_zero, List.set_cons_succ]
    · intro i hi; simp at hi
    · intro i o hi ho vs wx hvl hb hdep K hK
      have hvs := len12 hvl
      obtain ⟨s11, s12, s13, s14, s15, s16, s17, s18, s19, s20, s21, s22, rfl⟩ := hvs
      clear hvl
      have hk := HS2.out wx hb
      go_split_ands
      rcases i with _ | _ | _ | _ | _ | _ | _ | _ | _ | _ | _ | _ | i
      all_goals (simp only [List.getElem?_toArray, List.getElem?_cons_zero, List.getElem?_cons_succ, Option.some.injEq] at ho)
      all_goals try (subst ho)
      all_goals try simp only [putAll, Act.put, List.setIfInBounds_toArray, List.set_cons_zero, List.set_cons_succ]
      · go_simp
        have hK' := hK.out
        simp only [putAll, Act.put, List.setIfInBounds_toArray, List.set_cons_zero, List.set_cons_succ] at hK'
        exact hK' _ _ rfl (Below.refl _ _) (by simp)
      · have e0 : s11 = _ := hdep ⟨0, .data⟩ (by simp) rfl
        subst e0
        go_simp
        have hK' := hK.out
        simp only [putAll, Act.put, List.setIfInBounds_toArray, List.set_cons_zero, List.set_cons_succ] at hK'
        exact hK' _ _ rfl (Below.refl _ _) (by simp)
      · go_simp
        have hK' := hK.out
        simp only [putAll, Act.put, List.setIfInBounds_toArray, List.set_cons_zero, List.set_cons_succ] at hK'
        exact hK' _ _ rfl (Below.refl _ _) (by simp)
      · have e2 : s13 = _ := hdep ⟨2, .data⟩ (by simp) rfl
        subst e2
        go_simp
        have hK' := hK.out
        simp only [putAll, Act.put, List.setIfInBounds_toArray, List.set_cons_zero, List.set_cons_succ] at hK'
        exact hK' _ _ rfl (Below.refl _ _) (by simp)
      · have e1 : s12 = _ := hdep ⟨1, .data⟩ (by simp) rfl
        subst e1
        have e3 : s14 = _ := hdep ⟨3, .data⟩ (by simp) rfl
        subst e3
        go_simp
        refine (Mul_any _ _ (p) (r) _ (HA1.out.below hb) (HB1.out.below hb) (by omega) (by omega)).mono ?_
        rintro e wy ⟨vy, rfl, iy, hby⟩
        have hsh := iy.shape
        obtain ⟨p5, n5, c5, rfl, iy⟩ := hsh
        go_wp2_with fail
        have hK' := hK.out
        simp only [putAll, Act.put, List.setIfInBounds_toArray, List.set_cons_zero, List.set_cons_succ] at hK'
        exact hK' _ _ ⟨_, _, _, _, rfl, iy⟩ hby (by simp)
      · go_simp
        have hK' := hK.out
        simp only [putAll, Act.put, List.setIfInBounds_toArray, List.set_cons_zero, List.set_cons_succ] at hK'
        exact hK' _ _ rfl (Below.refl _ _) (by simp)
      · have e5 : s16 = _ := hdep ⟨5, .data⟩ (by simp) rfl
        subst e5
        go_simp
        have hK' := hK.out
        simp only [putAll, Act.put, List.setIfInBounds_toArray, List.set_cons_zero, List.set_cons_succ] at hK'
        exact hK' _ _ rfl (Below.refl _ _) (by simp)
      · go_simp
        have hK' := hK.out
        simp only [putAll, Act.put, List.setIfInBounds_toArray, List.set_cons_zero, List.set_cons_succ] at hK'
        exact hK' _ _ rfl (Below.refl _ _) (by simp)
      · have e7 : s18 = _ := hdep ⟨7, .data⟩ (by simp) rfl
        subst e7
        go_simp
        have hK' := hK.out
        simp only [putAll, Act.put, List.setIfInBounds_toArray, List.set_cons_zero, List.set_cons_succ] at hK'
        exact hK' _ _ rfl (Below.refl _ _) (by simp)
      · have e6 : s17 = _ := hdep ⟨6, .data⟩ (by simp) rfl
        subst e6
        have e8 : s19 = _ := hdep ⟨8, .data⟩ (by simp) rfl
        subst e8
        go_simp
        refine (Mul_any _ _ (dn q) (dn s) _ (HA2.out.below hb) (HB2.out.below hb) (by omega) (by omega)).mono ?_
        rintro e wy ⟨vy, rfl, iy, hby⟩
        have hsh := iy.shape
        obtain ⟨p5, n5, c5, rfl, iy⟩ := hsh
        go_wp2_with fail
        have hK' := hK.out
        simp only [putAll, Act.put, List.setIfInBounds_toArray, List.set_cons_zero, List.set_cons_succ] at hK'
        exact hK' _ _ ⟨_, _, _, _, rfl, iy⟩ hby (by simp)
      · have e4 : (intF (p * r)).P s15 wx := hdep ⟨4, .data⟩ (by simp) rfl
        obtain ⟨da4, pa4, na4, ca4, rfl, ia4⟩ := e4
        have e9 : (intF (dn q * dn s)).P s20 wx := hdep ⟨9, .data⟩ (by simp) rfl
        obtain ⟨da9, pa9, na9, ca9, rfl, ia9⟩ := e9
        go_simp
        have hK' := hK.out
        simp only [putAll, Act.put, List.setIfInBounds_toArray, List.set_cons_zero, List.set_cons_succ] at hK'
        exact hK' _ _ ⟨_, _, _, _, _, _, _, _, rfl, ia4.raw (by have := la.out; omega), ia9.raw (by have := lb.out; omega)⟩ (Below.refl _ _) (by simp)
      · have e10 : (pairF (p * r) (dn q * dn s)).P s21 wx := hdep ⟨10, .data⟩ (by simp) rfl
        go_simp
        refine (low_any _ _ _ _ e10 Hne.out).mono ?_
        rintro e wy ⟨vy, rfl, iy, hby⟩
        obtain ⟨e1, e2, e3, e4, e5, e6, e7, rfl, iy0, iy1⟩ := iy
        go_wp2_with fail
        have hK' := hK.out
        simp only [putAll, Act.put, List.setIfInBounds_toArray, List.set_cons_zero, List.set_cons_succ] at hK'
        exact hK' _ _ ⟨_, _, _, _, _, _, _, rfl, iy0, iy1⟩ hby (by simp)
      · omega
    · intro vs wx hvl hb hf hdist
      have hvs := len12 hvl
      obtain ⟨s11, s12, s13, s14, s15, s16, s17, s18, s19, s20, s21, s22, rfl⟩ := hvs
      have f11 : RatTold wx s22 (Rat.divInt (p * r) (dn q * dn s)) := hf 11 (by decide)
      obtain ⟨e11, e12, e13, e14, e15, e16, e17, rfl, i1, i2⟩ := f11
      have rz := HRZ.out.below hb
      have xz := cells3 rz
      obtain ⟨z0, z1, z2⟩ := xz
      have fz := frozen4 rz
      obtain ⟨fz0, fz1, fz2, -⟩ := fz
      clear hf hdist hvl
      refine wpAny_one (i := 12) (by kernel_rfl) rfl ?_
      intro K hK
      simp only [putAll, Act.put, List.setIfInBounds_toArray, List.set_cons_zero, List.set_cons_succ]
      go_simp
      have hK' := hK.out
      apply hK'
      clear hK hK'
      have m := put3 rz (by simp [nonInt]) (.bool e11) (.slice e12 e13 e14) (.slice e15 e16 e17) (by simp [nonInt])
      have j1 := m.2.int _ _ i1; have j2 := m.2.int _ _ i2
      have jb := m.2.bel w.heap.size w (by omega) (HBW.out.trans (hb.mono (B' := w.heap.size) HBW.out.size))
      have xm := cells3 m.1
      clear m rz z0 z1 z2 fz0 fz1 fz2 i1 i2
      generalize (((wx.setCell ⟨w.heap.size + 1 + 1, 0, none⟩ (.bool e11)).setCell ⟨w.heap.size + 1 + 1, 1, none⟩ (.slice e12 e13 e14)).setCell ⟨w.heap.size + 1 + 1, 2, none⟩ (.slice e15 e16 e17)) = wz at *
      obtain ⟨z0, z1, z2⟩ := xm
      refine wpAny_done (by kernel_rfl) ?_ _
      go_wp2
      exact bodyPost_ret (v := .agg #[.bool e11, .slice e12 e13 e14, .slice e15 e16 e17]) (by simp [results, Try.results26, go_sem, z0, z1, z2]) rfl ⟨_, rfl, ⟨_, _, _, _, _, _, _, rfl, j1, j2⟩, jb⟩
set_option maxRecDepth 100000 in
set_option maxHeartbeats 6400000 in
theorem QAdd_any (v0 v1 : Value) (p q r s : Int) (w : World) (h0 : RatRaw w v0 p q) (h1 : RatRaw w v1 r s) (l0 : sz W p.natAbs ≤ 1000) (l1 : sz W q.natAbs ≤ 1000) (l2 : sz W r.natAbs ≤ 1000) (l3 : sz W s.natAbs ≤ 1000) :
    Calls Try.prog 17 #[v0, v1] w (RRat (Rat.divInt p (dn q) + Rat.divInt r (dn s)) w) := by
  have hq := dn_pos h0.den
  have hs := dn_pos h1.den
  have hx : Rat.divInt p (dn q) + Rat.divInt r (dn s) = Rat.divInt (p * dn s + r * dn q) (dn q * dn s) := Rat.divInt_add_divInt _ _ (by omega) (by omega)
  have hne : dn q * dn s ≠ 0 := by
    have := Int.mul_pos hq hs
    omega
  rw [hx]
  have Hne := hid hne
  have l1' := sz_dn l1 (by decide)
  have l3' := sz_dn l3 (by decide)
  have la := sz_mul2 l0 l3'; have lb := sz_mul2 l2 l1'
  have lc := hid (sz_mul2 l1' l3'); have ld := hid (sz_add2 la lb)
  have la := hid la; have lb := hid lb
  clear hx hne hq hs
  obtain ⟨b, p0, n0, c0, p1, n1, c1, rfl, ha0, ha1⟩ := id h0
  obtain ⟨b', p2, n2, c2, p3, n3, c3, rfl, hb0, hb1⟩ := id h1
  have HRA := hid h0; have HRB := hid h1
  clear ha0 ha1 hb0 hb1 h0 h1
  go_enter Try.func17, Try.ntmps17
  go_upto_region 1 with fail
  generalize hW : World.alloc (World.alloc (World.alloc w _) _) _ = W0
  have bw : Below w.heap.size w W0 := by rw [← hW]; exact ((below1 _ _).alloc (by simp) _).alloc (by simp; omega) _
  have ra : Rec W0 w.heap.size 29 #[.bool b, .slice p0 n0 c0, .slice p1 n1 c1] := by
    rw [← hW]; exact ((Rec.new ..).below (below1 _ _)).below (below1 _ _)
  have rb : Rec W0 (w.heap.size + 1) 29 #[.bool b', .slice p2 n2 c2, .slice p3 n3 c3] := by
    rw [← hW]
    have := (Rec.new (w.alloc (.cells #[.bool b, .slice p0 n0 c0, .slice p1 n1 c1] 29)) #[.bool b', .slice p2 n2 c2, .slice p3 n3 c3] 29)
    rw [size_alloc] at this
    exact this.below (below1 _ _)
  have rz : Rec W0 (w.heap.size + 1 + 1) 29 #[.bool false, .slice none 0 0, .slice none 0 0] := by
    rw [← hW]
    have := Rec.new ((w.alloc (.cells #[.bool b, .slice p0 n0 c0, .slice p1 n1 c1] 29)).alloc (.cells #[.bool b', .slice p2 n2 c2, .slice p3 n3 c3] 29)) #[.bool false, .slice none 0 0, .slice none 0 0] 29
    rwa [size_alloc, size_alloc] at this
  have Hrz := hid rz
  clear rz
  have HS : Hid (∀ w', Below W0.heap.size W0 w' → w'.cell? ⟨w.heap.size, 0, none⟩ = some (.bool b) ∧ w'.cell? ⟨w.heap.size, 1, none⟩ = some (.slice p0 n0 c0) ∧ w'.cell? ⟨w.heap.size, 2, none⟩ = some (.slice p1 n1 c1) ∧
      w'.cell? ⟨w.heap.size + 1, 0, none⟩ = some (.bool b') ∧ w'.cell? ⟨w.heap.size + 1, 1, none⟩ = some (.slice p2 n2 c2) ∧ w'.cell? ⟨w.heap.size + 1, 2, none⟩ = some (.slice p3 n3 c3)) := by
    intro w' hb
    have xa := cells3 (ra.below hb)
    have xb := cells3 (rb.below hb)
    exact ⟨xa.1, xa.2.1, xa.2.2, xb.1, xb.2.1, xb.2.2⟩
  have HRA := hid (HRA.out.below bw); have HRB := hid (HRB.out.below bw); have Hbw := hid bw
  clear hW ra rb bw
  go_upto_region 1 with fail
  go_cut [5, 6] (fun s5 s6 wx => ∃ g5 g6, s5 = .pointer (some ⟨g5, 0, none⟩) ∧ s6 = .pointer (some ⟨g6, 0, none⟩) ∧ g5 ≠ g6 ∧ W0.heap.size ≤ g5 ∧ W0.heap.size ≤ g6 ∧ PairVar wx g5 p (dn q) ∧ PairVar wx g6 r (dn s) ∧ Below W0.heap.size W0 wx)
  case first =>
    rename_i Jc Kc hJc hKc
    refine wp_region_facts (w0 := W0) 6 2 [8, 9, 10, 11, 5, 6] [undef, undef, undef, undef, undef, undef]
      (fun i => match i with | 0 => eqF (.agg #[.bool b, .slice p0 n0 c0, .slice p1 n1 c1]) | 1 => pairF p (dn q) | 2 => eqF (.agg #[.bool b', .slice p2 n2 c2, .slice p3 n3 c3]) | 3 => pairF r (dn s) | 4 => recF W0.heap.size 51 | _ => recF W0.heap.size 51) [4, 5] (by kernel_rfl) (by kernel_rfl) (by kernel_rfl) (by kernel_rfl) (by decide) rfl (by kernel_rfl) rfl (by simp) ?he4 ?_ ?_ ?_
    case he4 => simp only [putAll, Act.put, List.setIfInBounds_toArray, List.set_cons_zero, List.set_cons_succ]
    · intro i hi v w' h
      simp only [List.mem_cons, List.not_mem_nil, or_false] at hi
      rcases hi with rfl | rfl
      · obtain ⟨g, x1, x2, x3, x4, hg, hp, -⟩ := (show (recF W0.heap.size 51).P v w' from h); exact ⟨g, hg, hp.lt⟩
      · obtain ⟨g, x1, x2, x3, x4, hg, hp, -⟩ := (show (recF W0.heap.size 51).P v w' from h); exact ⟨g, hg, hp.lt⟩
    · intro i o hi ho vs wx hvl hb hdep K hK
      have hvs := len6 hvl
      obtain ⟨s8, s9, s10, s11, s5, s6, rfl⟩ := hvs
      clear hvl
      have hk := HS.out wx hb
      go_split_ands
      rcases i with _ | _ | _ | _ | _ | _ | i
      all_goals (simp only [List.getElem?_toArray, List.getElem?_cons_zero, List.getElem?_cons_succ, Option.some.injEq] at ho)
      all_goals try (subst ho)
      all_goals try simp only [putAll, Act.put, List.setIfInBounds_toArray, List.set_cons_zero, List.set_cons_succ]
      · go_simp
        have hK' := hK.out
        simp only [putAll, Act.put, List.setIfInBounds_toArray, List.set_cons_zero, List.set_cons_succ] at hK'
        exact hK' _ _ rfl (Below.refl _ _) (by simp)
      · have e0 : s8 = _ := hdep ⟨0, .data⟩ (by simp) rfl
        subst e0
        go_simp
        refine (read_any _ p q _ (HRA.out.below hb)).mono ?_
        rintro e wy ⟨vy, rfl, iy, hby⟩
        obtain ⟨e1, e2, e3, e4, e5, e6, e7, e8, rfl, iy0, iy1⟩ := iy
        go_wp2_with fail
        have hK' := hK.out
        simp only [putAll, Act.put, List.setIfInBounds_toArray, List.set_cons_zero, List.set_cons_succ] at hK'
        exact hK' _ _ ⟨_, _, _, _, _, _, _, _, rfl, iy0, iy1⟩ hby (by simp)
      · go_simp
        have hK' := hK.out
        simp only [putAll, Act.put, List.setIfInBounds_toArray, List.set_cons_zero, List.set_cons_succ] at hK'
        exact hK' _ _ rfl (Below.refl _ _) (by simp)
      · have e2 : s10 = _ := hdep ⟨2, .data⟩ (by simp) rfl
        subst e2
        go_simp
        refine (read_any _ r s _ (HRB.out.below hb)).mono ?_
        rintro e wy ⟨vy, rfl, iy, hby⟩
        obtain ⟨e1, e2, e3, e4, e5, e6, e7, e8, rfl, iy0, iy1⟩ := iy
        go_wp2_with fail
        have hK' := hK.out
        simp only [putAll, Act.put, List.setIfInBounds_toArray, List.set_cons_zero, List.set_cons_succ] at hK'
        exact hK' _ _ ⟨_, _, _, _, _, _, _, _, rfl, iy0, iy1⟩ hby (by simp)
      · go_simp
        have hK' := hK.out
        simp only [putAll, Act.put, List.setIfInBounds_toArray, List.set_cons_zero, List.set_cons_succ] at hK'
        exact hK' _ _ ⟨_, _, _, _, _, rfl, Rec.new .., by simp [nonInt], hb.size⟩ (below1 _ _) (fun _ => rfl)
      · go_simp
        have hK' := hK.out
        simp only [putAll, Act.put, List.setIfInBounds_toArray, List.set_cons_zero, List.set_cons_succ] at hK'
        exact hK' _ _ ⟨_, _, _, _, _, rfl, Rec.new .., by simp [nonInt], hb.size⟩ (below1 _ _) (fun _ => rfl)
      · omega
    · intro vs wx hvl hb hf hdist
      have hvs := len6 hvl
      obtain ⟨s8, s9, s10, s11, s5, s6, rfl⟩ := hvs
      have k1 : PairAt wx s9 p (dn q) := hf 1 (by decide)
      have k3 : PairAt wx s11 r (dn s) := hf 3 (by decide)
      have k4 : (recF W0.heap.size 51).P s5 wx := hf 4 (by decide)
      have k5 : (recF W0.heap.size 51).P s6 wx := hf 5 (by decide)
      have hne : s5 ≠ s6 := hdist 4 (by simp) 5 (by simp) (by decide)
      obtain ⟨e1, e2, e3, e4, e5, e6, e7, e8, rfl, i1, i2⟩ := k1
      obtain ⟨f1, f2, f3, f4, f5, f6, f7, f8, rfl, j1, j2⟩ := k3
      obtain ⟨g5, xa, xb, xc, xd, rfl, rec5, non5, hB5⟩ := k4
      obtain ⟨g6, ya, yb, yc, yd, rfl, rec6, non6, hB6⟩ := k5
      have hgne : g5 ≠ g6 := fun e => hne (by rw [e])
      clear hf hdist hvl hne
      have c5 := cells4 rec5
      obtain ⟨x0, x1, x2, x3⟩ := c5
      have f5x := frozen4 rec5
      obtain ⟨y0, y1, y2, y3⟩ := f5x
      refine wpAny_one (i := 6) (by kernel_rfl) rfl ?_
      intro K hK
      simp only [putAll, Act.put, List.setIfInBounds_toArray, List.set_cons_zero, List.set_cons_succ]
      go_simp
      have hK' := hK.out
      apply hK'
      clear hK hK'
      have m5 := put4 rec5 non5 (.bool e1) (.slice e2 e3 e4) (.bool e5) (.slice e6 e7 e8) (by simp [nonInt])
      have i1 := m5.2.raw _ _ i1; have i2 := m5.2.raw _ _ i2; have j1 := m5.2.raw _ _ j1; have j2 := m5.2.raw _ _ j2
      have rec6 := m5.2.rcs _ _ _ hgne.symm rec6
      have hb := m5.2.bel W0.heap.size W0 hB5 hb
      have rec5 := m5.1
      clear m5 x0 x1 x2 x3 y0 y1 y2 y3
      generalize ((((wx.setCell ⟨g5, 0, none⟩ (.bool e1)).setCell ⟨g5, 1, none⟩ (.slice e2 e3 e4)).setCell ⟨g5, 2, none⟩ (.bool e5)).setCell ⟨g5, 3, none⟩ (.slice e6 e7 e8)) = wy at *
      have c6 := cells4 rec6
      obtain ⟨x0, x1, x2, x3⟩ := c6
      have f6x := frozen4 rec6
      obtain ⟨y0, y1, y2, y3⟩ := f6x
      refine wpAny_one (i := 7) (by kernel_rfl) rfl ?_
      intro K hK
      go_simp
      have hK' := hK.out
      apply hK'
      clear hK hK'
      have m6 := put4 rec6 non6 (.bool f1) (.slice f2 f3 f4) (.bool f5) (.slice f6 f7 f8) (by simp [nonInt])
      refine wpAny_done (by kernel_rfl) ?_ _
      refine hKc _ _ (Met.intro (hJc _ _ ?_))
      (repeat apply Exists.intro)
      exact ⟨⟨g5, g6, rfl, rfl, hgne, hB5, hB6, ⟨_, _, _, _, _, _, _, _, m6.2.rcs _ _ _ hgne rec5, m6.2.raw _ _ i1, m6.2.raw _ _ i2⟩, ⟨_, _, _, _, _, _, _, _, m6.1, m6.2.raw _ _ j1, m6.2.raw _ _ j2⟩, m6.2.bel W0.heap.size W0 hB6 hb⟩, rfl⟩
  case rest =>
    obtain ⟨g5, g6, rfl, rfl, hgne, hB5, hB6, V5, V6, hbc⟩ := hcut
    obtain ⟨e1, e2, e3, e4, e5, e6, e7, e8, rec5, A1, A2⟩ := V5
    obtain ⟨f1, f2, f3, f4, f5, f6, f7, f8, rec6, B1, B2⟩ := V6
    have Hrec5 := hid rec5; have Hrec6 := hid rec6
    have HA1 := hid A1; have HA2 := hid A2; have HB1 := hid B1; have HB2 := hid B2; have Hbc := hid hbc
    have HS2 : Hid (∀ w', Below wc.heap.size wc w' → w'.cell? ⟨g5, 0, none⟩ = some (.bool e1) ∧ w'.cell? ⟨g5, 1, none⟩ = some (.slice e2 e3 e4) ∧ w'.cell? ⟨g5, 2, none⟩ = some (.bool e5) ∧ w'.cell? ⟨g5, 3, none⟩ = some (.slice e6 e7 e8) ∧
        w'.cell? ⟨g6, 0, none⟩ = some (.bool f1) ∧ w'.cell? ⟨g6, 1, none⟩ = some (.slice f2 f3 f4) ∧ w'.cell? ⟨g6, 2, none⟩ = some (.bool f5) ∧ w'.cell? ⟨g6, 3, none⟩ = some (.slice f6 f7 f8)) := by
      intro w' hb
      have xa := cells4 (Hrec5.out.below hb)
      have xb := cells4 (Hrec6.out.below hb)
      exact ⟨xa.1, xa.2.1, xa.2.2.1, xa.2.2.2, xb.1, xb.2.1, xb.2.2.1, xb.2.2.2⟩
    clear rec5 rec6 A1 A2 B1 B2 hbc HS HRA HRB Hrec5 Hrec6
    have HRZ := hid (Hrz.out.below Hbc.out)
    have HBW := hid (Hbw.out.trans (Hbc.out.mono (B' := w.heap.size) Hbw.out.size))
    go_upto_region 2 with fail
    refine wp_region_facts (w0 := wc) 12 1 [12, 13, 14, 15, 16, 17, 18, 19, 20, 21, 22, 7] [u12, u13, u14, u15, u16, u17, u18, u19, u20, u21, u22, undef]
      (fun i => match i with | 0 => eqF (.pointer (some ⟨g5, 0, none⟩)) | 1 => eqF (.agg #[.bool e1, .slice e2 e3 e4]) | 2 => eqF (.pointer (some ⟨g6, 2, none⟩)) | 3 => eqF (.agg #[.bool f5, .slice f6 f7 f8]) | 4 => intF (p * dn s) | 5 => eqF (.pointer (some ⟨g6, 0, none⟩)) | 6 => eqF (.agg #[.bool f1, .slice f2 f3 f4]) | 7 => eqF (.pointer (some ⟨g5, 2, none⟩)) | 8 => eqF (.agg #[.bool e5, .slice e6 e7 e8]) | 9 => intF (r * dn q) | 10 => intF (p * dn s + r * dn q) | _ => varF wc.heap.size) [11] (by kernel_rfl) (by kernel_rfl) (by kernel_rfl) (by kernel_rfl) (by decide) rfl (by kernel_rfl) rfl (by simp) ?he6 ?_ ?_ ?_
    case he6 => simp only [putAll, Act.put, List.setIfInBounds_toArray, List.set_cons_zero, List.set_cons_succ]
    · intro i hi v w' h
      simp only [List.mem_cons, List.not_mem_nil, or_false] at hi
      rcases hi with rfl
      · obtain ⟨g, hg, hp, -⟩ := (show (varF wc.heap.size).P v w' from h); exact ⟨g, hg, hp.lt⟩
    · intro i o hi ho vs wx hvl hb hdep K hK
      have hvs := len12 hvl
      obtain ⟨s12, s13, s14, s15, s16, s17, s18, s19, s20, s21, s22, s7, rfl⟩ := hvs
      clear hvl
      have hk := HS2.out wx hb
      go_split_ands
      rcases i with _ | _ | _ | _ | _ | _ | _ | _ | _ | _ | _ | _ | i
      all_goals (simp only [List.getElem?_toArray, List.getElem?_cons_zero, List.getElem?_cons_succ, Option.some.injEq] at ho)
      all_goals try (subst ho)
      all_goals try simp only [putAll, Act.put, List.setIfInBounds_toArray, List.set_cons_zero, List.set_cons_succ]
      · go_simp
        have hK' := hK.out
        simp only [putAll, Act.put, List.setIfInBounds_toArray, List.set_cons_zero, List.set_cons_succ] at hK'
        exact hK' _ _ rfl (Below.refl _ _) (by simp)
      · have e0 : s12 = _ := hdep ⟨0, .data⟩ (by simp) rfl
        subst e0
        go_simp
        have hK' := hK.out
        simp only [putAll, Act.put, List.setIfInBounds_toArray, List.set_cons_zero, List.set_cons_succ] at hK'
        exact hK' _ _ rfl (Below.refl _ _) (by simp)
      · go_simp
        have hK' := hK.out
        simp only [putAll, Act.put, List.setIfInBounds_toArray, List.set_cons_zero, List.set_cons_succ] at hK'
        exact hK' _ _ rfl (Below.refl _ _) (by simp)
      · have e2 : s14 = _ := hdep ⟨2, .data⟩ (by simp) rfl
        subst e2
        go_simp
        have hK' := hK.out
        simp only [putAll, Act.put, List.setIfInBounds_toArray, List.set_cons_zero, List.set_cons_succ] at hK'
        exact hK' _ _ rfl (Below.refl _ _) (by simp)
      · have e1 : s13 = _ := hdep ⟨1, .data⟩ (by simp) rfl
        subst e1
        have e3 : s15 = _ := hdep ⟨3, .data⟩ (by simp) rfl
        subst e3
        go_simp
        refine (Mul_any _ _ (p) (dn s) _ (HA1.out.below hb) (HB2.out.below hb) (by omega) (by omega)).mono ?_
        rintro e wy ⟨vy, rfl, iy, hby⟩
        have hsh := iy.shape
        obtain ⟨p5, n5, c5, rfl, iy⟩ := hsh
        go_wp2_with fail
        have hK' := hK.out
        simp only [putAll, Act.put, List.setIfInBounds_toArray, List.set_cons_zero, List.set_cons_succ] at hK'
        exact hK' _ _ ⟨_, _, _, _, rfl, iy⟩ hby (by simp)
      · go_simp
        have hK' := hK.out
        simp only [putAll, Act.put, List.setIfInBounds_toArray, List.set_cons_zero, List.set_cons_succ] at hK'
        exact hK' _ _ rfl (Below.refl _ _) (by simp)
      · have e5 : s17 = _ := hdep ⟨5, .data⟩ (by simp) rfl
        subst e5
        go_simp
        have hK' := hK.out
        simp only [putAll, Act.put, List.setIfInBounds_toArray, List.set_cons_zero, List.set_cons_succ] at hK'
        exact hK' _ _ rfl (Below.refl _ _) (by simp)
      · go_simp
        have hK' := hK.out
        simp only [putAll, Act.put, List.setIfInBounds_toArray, List.set_cons_zero, List.set_cons_succ] at hK'
        exact hK' _ _ rfl (Below.refl _ _) (by simp)
      · have e7 : s19 = _ := hdep ⟨7, .data⟩ (by simp) rfl
        subst e7
        go_simp
        have hK' := hK.out
        simp only [putAll, Act.put, List.setIfInBounds_toArray, List.set_cons_zero, List.set_cons_succ] at hK'
        exact hK' _ _ rfl (Below.refl _ _) (by simp)
      · have e6 : s18 = _ := hdep ⟨6, .data⟩ (by simp) rfl
        subst e6
        have e8 : s20 = _ := hdep ⟨8, .data⟩ (by simp) rfl
        subst e8
        go_simp
        refine (Mul_any _ _ (r) (dn q) _ (HB1.out.below hb) (HA2.out.below hb) (by omega) (by omega)).mono ?_
        rintro e wy ⟨vy, rfl, iy, hby⟩
        have hsh := iy.shape
        obtain ⟨p5, n5, c5, rfl, iy⟩ := hsh
        go_wp2_with fail
        have hK' := hK.out
        simp only [putAll, Act.put, List.setIfInBounds_toArray, List.set_cons_zero, List.set_cons_succ] at hK'
        exact hK' _ _ ⟨_, _, _, _, rfl, iy⟩ hby (by simp)
      · have e4 : (intF (p * dn s)).P s16 wx := hdep ⟨4, .data⟩ (by simp) rfl
        obtain ⟨da4, pa4, na4, ca4, rfl, ia4⟩ := e4
        have e9 : (intF (r * dn q)).P s21 wx := hdep ⟨9, .data⟩ (by simp) rfl
        obtain ⟨da9, pa9, na9, ca9, rfl, ia9⟩ := e9
        go_simp
        refine (Add_any _ _ _ _ _ (ia4.raw (by have := la.out; omega)) (ia9.raw (by have := lb.out; omega))).mono ?_
        rintro e wy ⟨vy, rfl, iy, hby⟩
        have hsh := iy.shape
        obtain ⟨p5, n5, c5, rfl, iy⟩ := hsh
        go_wp2_with fail
        have hK' := hK.out
        simp only [putAll, Act.put, List.setIfInBounds_toArray, List.set_cons_zero, List.set_cons_succ] at hK'
        exact hK' _ _ ⟨_, _, _, _, rfl, iy⟩ hby (by simp)
      · go_simp
        have hK' := hK.out
        simp only [putAll, Act.put, List.setIfInBounds_toArray, List.set_cons_zero, List.set_cons_succ] at hK'
        exact hK' _ _ ⟨_, rfl, Pair.new .., hb.size⟩ (below1 _ _) (fun _ => rfl)
      · omega
    · intro vs wx hvl hb hf hdist
      have hvs := len12 hvl
      obtain ⟨s12, s13, s14, s15, s16, s17, s18, s19, s20, s21, s22, s7, rfl⟩ := hvs
      have f10 : (intF (p * dn s + r * dn q)).P s22 wx := hf 10 (by decide)
      have f11 : VarAt wx wc.heap.size s7 := hf 11 (by decide)
      obtain ⟨d7, p7, m7, c7, rfl, i7⟩ := f10
      obtain ⟨g7, rfl, hp7, hB7⟩ := f11
      have c7x := hp7.cells
      obtain ⟨_, _, q0, q1, q2, q3⟩ := c7x
      clear hf hdist hvl
      refine wpAny_one (i := 12) (by kernel_rfl) rfl ?_
      intro K hK
      simp only [putAll, Act.put, List.setIfInBounds_toArray, List.set_cons_zero, List.set_cons_succ]
      go_simp
      have hK' := hK.out
      apply hK'
      clear hK hK'
      have x7 := hid (IntCell.put hp7 i7)
      have hb7 := hid (Below.stored hb hB7 (.bool d7) (.slice p7 m7 c7))
      clear q0 q1 q2 q3 hp7 i7 hb
      generalize ((wx.setCell ⟨g7, 0, none⟩ (.bool d7)).setCell ⟨g7, 1, none⟩ (.slice p7 m7 c7)) = wd at *
      refine wpAny_done (by kernel_rfl) ?_ _
      have HRZ := hid (HRZ.out.below hb7.out)
      have HBW := hid (HBW.out.trans (hb7.out.mono (B' := w.heap.size) HBW.out.size))
      have HA2 := hid (HA2.out.below hb7.out); have HB2 := hid (HB2.out.below hb7.out)
      have HS3 : Hid (∀ w', Below wd.heap.size wd w' → w'.cell? ⟨g5, 2, none⟩ = some (.bool e5) ∧ w'.cell? ⟨g5, 3, none⟩ = some (.slice e6 e7 e8) ∧ w'.cell? ⟨g6, 2, none⟩ = some (.bool f5) ∧ w'.cell? ⟨g6, 3, none⟩ = some (.slice f6 f7 f8)) := by
        intro w' hb
        have a := HS2.out w' (Below.go hb hb7.out)
        exact ⟨a.2.2.1, a.2.2.2.1, a.2.2.2.2.2.2.1, a.2.2.2.2.2.2.2⟩
      clear HS2
      go_upto_region 3 with fail
      refine wp_region_facts (w0 := wd) 8 1 [23, 24, 25, 26, 27, 28, 29, 30] [u23, u24, u25, u26, u27, u28, u29, u30]
        (fun i => match i with | 0 => intF (p * dn s + r * dn q) | 1 => eqF (.pointer (some ⟨g5, 2, none⟩)) | 2 => eqF (.agg #[.bool e5, .slice e6 e7 e8]) | 3 => eqF (.pointer (some ⟨g6, 2, none⟩)) | 4 => eqF (.agg #[.bool f5, .slice f6 f7 f8]) | 5 => intF (dn q * dn s) | 6 => pairF (p * dn s + r * dn q) (dn q * dn s) | _ => ratF (Rat.divInt (p * dn s + r * dn q) (dn q * dn s))) [] (by kernel_rfl) (by kernel_rfl) (by kernel_rfl) (by kernel_rfl) (by decide) rfl (by kernel_rfl) rfl (by simp) ?he5 ?_ ?_ ?_
      case he5 => simp only [putAll, Act.put, List.setIfInBounds_toArray, List.set_cons_zero, List.set_cons_succ]
      · intro i hi; simp at hi
      · intro i o hi ho vs wx hvl hb hdep K hK
        have hvs := len8 hvl
        obtain ⟨s23, s24, s25, s26, s27, s28, s29, s30, rfl⟩ := hvs
        clear hvl
        have hk := HS3.out wx hb
        go_split_ands
        rcases i with _ | _ | _ | _ | _ | _ | _ | _ | i
        all_goals (simp only [List.getElem?_toArray, List.getElem?_cons_zero, List.getElem?_cons_succ, Option.some.injEq] at ho)
        all_goals try (subst ho)
        all_goals try simp only [putAll, Act.put, List.setIfInBounds_toArray, List.set_cons_zero, List.set_cons_succ]
        · have hc := x7.out.below hb
          obtain ⟨d5, p5, m5, c5, z5, i5⟩ := hc
          have z5' := two_cells z5
          obtain ⟨x50, x51, -, -⟩ := z5'
          go_simp
          have hK' := hK.out
          simp only [putAll, Act.put, List.setIfInBounds_toArray, List.set_cons_zero, List.set_cons_succ] at hK'
          exact hK' _ _ ⟨_, _, _, _, rfl, i5⟩ (Below.refl _ _) (by simp)
        · go_simp
          have hK' := hK.out
          simp only [putAll, Act.put, List.setIfInBounds_toArray, List.set_cons_zero, List.set_cons_succ] at hK'
          exact hK' _ _ rfl (Below.refl _ _) (by simp)
        · have e1 : s24 = _ := hdep ⟨1, .data⟩ (by simp) rfl
          subst e1
          go_simp
          have hK' := hK.out
          simp only [putAll, Act.put, List.setIfInBounds_toArray, List.set_cons_zero, List.set_cons_succ] at hK'
          exact hK' _ _ rfl (Below.refl _ _) (by simp)
        · go_simp
          have hK' := hK.out
          simp only [putAll, Act.put, List.setIfInBounds_toArray, List.set_cons_zero, List.set_cons_succ] at hK'
          exact hK' _ _ rfl (Below.refl _ _) (by simp)
        · have e3 : s26 = _ := hdep ⟨3, .data⟩ (by simp) rfl
          subst e3
          go_simp
          have hK' := hK.out
          simp only [putAll, Act.put, List.setIfInBounds_toArray, List.set_cons_zero, List.set_cons_succ] at hK'
          exact hK' _ _ rfl (Below.refl _ _) (by simp)
        · have e2 : s25 = _ := hdep ⟨2, .data⟩ (by simp) rfl
          subst e2
          have e4 : s27 = _ := hdep ⟨4, .data⟩ (by simp) rfl
          subst e4
          go_simp
          refine (Mul_any _ _ (dn q) (dn s) _ (HA2.out.below hb) (HB2.out.below hb) (by omega) (by omega)).mono ?_
          rintro e wy ⟨vy, rfl, iy, hby⟩
          have hsh := iy.shape
          obtain ⟨p5, n5, c5, rfl, iy⟩ := hsh
          go_wp2_with fail
          have hK' := hK.out
          simp only [putAll, Act.put, List.setIfInBounds_toArray, List.set_cons_zero, List.set_cons_succ] at hK'
          exact hK' _ _ ⟨_, _, _, _, rfl, iy⟩ hby (by simp)
        · have e0 : (intF (p * dn s + r * dn q)).P s23 wx := hdep ⟨0, .data⟩ (by simp) rfl
          obtain ⟨da0, pa0, na0, ca0, rfl, ia0⟩ := e0
          have e5 : (intF (dn q * dn s)).P s28 wx := hdep ⟨5, .data⟩ (by simp) rfl
          obtain ⟨da5, pa5, na5, ca5, rfl, ia5⟩ := e5
          go_simp
          have hK' := hK.out
          simp only [putAll, Act.put, List.setIfInBounds_toArray, List.set_cons_zero, List.set_cons_succ] at hK'
          exact hK' _ _ ⟨_, _, _, _, _, _, _, _, rfl, ia0.raw (by have := ld.out; omega), ia5.raw (by have := lc.out; omega)⟩ (Below.refl _ _) (by simp)
        · have e6 : (pairF (p * dn s + r * dn q) (dn q * dn s)).P s29 wx := hdep ⟨6, .data⟩ (by simp) rfl
          go_simp
          refine (low_any _ _ _ _ e6 Hne.out).mono ?_
          rintro e wy ⟨vy, rfl, iy, hby⟩
          obtain ⟨e1, e2, e3, e4, e5, e6, e7, rfl, iy0, iy1⟩ := iy
          go_wp2_with fail
          have hK' := hK.out
          simp only [putAll, Act.put, List.setIfInBounds_toArray, List.set_cons_zero, List.set_cons_succ] at hK'
          exact hK' _ _ ⟨_, _, _, _, _, _, _, rfl, iy0, iy1⟩ hby (by simp)
        · omega
      · intro vs wx hvl hb hf hdist
        have hvs := len8 hvl
        obtain ⟨s23, s24, s25, s26, s27, s28, s29, s30, rfl⟩ := hvs
        have f7 : RatTold wx s30 (Rat.divInt (p * dn s + r * dn q) (dn q * dn s)) := hf 7 (by decide)
        obtain ⟨e11, e12, e13, e14, e15, e16, e17, rfl, i1, i2⟩ := f7
        have rz := HRZ.out.below hb
        have xz := cells3 rz
        obtain ⟨z0, z1, z2⟩ := xz
        have fz := frozen4 rz
        obtain ⟨fz0, fz1, fz2, -⟩ := fz
        clear hf hdist hvl
        refine wpAny_one (i := 8) (by kernel_rfl) rfl ?_
        intro K hK
        simp only [putAll, Act.put, List.setIfInBounds_toArray, List.set_cons_zero, List.set_cons_succ]
        go_simp
        have hK' := hK.out
        apply hK'
        clear hK hK'
        have m := put3 rz (by simp [nonInt]) (.bool e11) (.slice e12 e13 e14) (.slice e15 e16 e17) (by simp [nonInt])
        have j1 := m.2.int _ _ i1; have j2 := m.2.int _ _ i2
        have jb := m.2.bel w.heap.size w (by omega) (HBW.out.trans (hb.mono (B' := w.heap.size) HBW.out.size))
        have xm := cells3 m.1
        clear m rz z0 z1 z2 fz0 fz1 fz2 i1 i2
        generalize (((wx.setCell ⟨w.heap.size + 1 + 1, 0, none⟩ (.bool e11)).setCell ⟨w.heap.size + 1 + 1, 1, none⟩ (.slice e12 e13 e14)).setCell ⟨w.heap.size + 1 + 1, 2, none⟩ (.slice e15 e16 e17)) = wz at *
        obtain ⟨z0, z1, z2⟩ := xm
        refine wpAny_done (by kernel_rfl) ?_ _
        go_wp2
        exact bodyPost_ret (v := .agg #[.bool e11, .slice e12 e13 e14, .slice e15 e16 e17]) (by simp [results, Try.results17, go_sem, z0, z1, z2]) rfl ⟨_, rfl, ⟨_, _, _, _, _, _, _, rfl, j1, j2⟩, jb⟩
end Go.Proofs.Yteiniokddopacaa
/- ratio.unlessZero, New. -/
namespace Go.Proofs.Yteiniokddopacaa
open Go.RowKit Big

def RNone (w : World) (e : Ending) (w' : World) : Prop := e = .returned (.tuple #[.agg #[.bool false, .slice none 0 0, .slice none 0 0], .int .i64 12]) ∧ Below w.heap.size w w'
def RSome (x : Rat) (w : World) (e : Ending) (w' : World) : Prop := ∃ v, e = .returned (.tuple #[v, .int .i64 0]) ∧ RatTold w' v x ∧ Below w.heap.size w w'
theorem RatTold.parts {w : World} {v : Value} {x : Rat} (h : RatTold w v x) : ∃ b p0 n0 c0 p1 n1 c1, v = .agg #[.bool b, .slice p0 n0 c0, .slice p1 n1 c1] ∧ RatTold w (.agg #[.bool b, .slice p0 n0 c0, .slice p1 n1 c1]) x := by
  obtain ⟨b, p0, n0, c0, p1, n1, c1, hv, h0, h1⟩ := h
  exact ⟨b, p0, n0, c0, p1, n1, c1, hv, b, p0, n0, c0, p1, n1, c1, rfl, h0, h1⟩
theorem RatTold.stay {w w' : World} {g : Nat} {v : Value} {x : Rat} (h : RatTold w v x) (hs : Stay w w' g) : RatTold w' v x := by
  obtain ⟨b, p0, n0, c0, p1, n1, c1, hv, h0, h1⟩ := h
  exact ⟨b, p0, n0, c0, p1, n1, c1, hv, hs.int _ _ h0, hs.int _ _ h1⟩

set_option maxRecDepth 100000 in
set_option maxHeartbeats 1600000 in
theorem unless_none (vb vp : Value) (w : World) (hb : RawAt w vb 0) : Calls Try.prog 36 #[vb, .func (.func 37) #[vp] #[]] w (RNone w) := by
  obtain ⟨b, p, n, c, rfl⟩ := hb.parts
  have hsg := Sign_any _ 0 ((w.alloc (.cells #[.bool b, .slice p n c] 25)).alloc (.cells #[.bool false, .slice none 0 0, .slice none 0 0] 29)) (hb.below ((below1 _ _).alloc (by simp) _))
  rw [Int.sign_zero] at hsg
  have Hsg := hid hsg
  have rz : ∀ o, Rec ((w.alloc o).alloc (.cells #[.bool false, .slice none 0 0, .slice none 0 0] 29)) (w.heap.size + 1) 29 #[.bool false, .slice none 0 0, .slice none 0 0] := fun o => by
    have := Rec.new (w.alloc o) #[.bool false, .slice none 0 0, .slice none 0 0] 29
    rwa [size_alloc] at this
  have Hrz := hid (rz (.cells #[.bool b, .slice p n c] 25))
  clear hsg hb rz
  go_enter Try.func36, Try.ntmps36
  go_wp2_with fail
  refine Hsg.out.mono ?_
  rintro e w1 ⟨rfl, b1⟩
  have r1 := Hrz.out.below b1
  have bw : Below w.heap.size w w1 := ((below1 _ _).alloc (by simp) _).trans (b1.mono (B' := w.heap.size) (by simp; omega))
  have x := cells3 r1
  obtain ⟨z0, z1, z2⟩ := x
  have f := frozen4 r1
  obtain ⟨f0, f1, f2, -⟩ := f
  have m := put3 r1 (by simp [nonInt]) (.bool false) (.slice none 0 0) (.slice none 0 0) (by simp [nonInt])
  have mb := hid (m.2.bel w.heap.size w (by omega) bw)
  clear m r1 b1 bw Hsg Hrz
  go_wp2
  exact bodyPost_ret (v := .tuple #[.agg #[.bool false, .slice none 0 0, .slice none 0 0], .int .i64 12]) (by simp [results, Try.results36, go_sem, z0, z1, z2]) rfl ⟨rfl, mb.out⟩

set_option maxRecDepth 100000 in
set_option maxHeartbeats 1600000 in
theorem unless_some (vb vp : Value) (p q z : Int) (w : World) (hb : RawAt w vb z) (hz : z ≠ 0) (hp : PairAt w vp p q) (hq : q ≠ 0) :
    Calls Try.prog 36 #[vb, .func (.func 37) #[vp] #[]] w (RSome (Rat.divInt p q) w) := by
  obtain ⟨b, pp, n, c, rfl⟩ := hb.parts
  have hsg := Sign_any _ z ((w.alloc (.cells #[.bool b, .slice pp n c] 25)).alloc (.cells #[.bool false, .slice none 0 0, .slice none 0 0] 29)) (hb.below ((below1 _ _).alloc (by simp) _))
  have hs : (z.sign == 0) = false := beq_eq_false_iff_ne.2 (fun e => hz (Int.sign_eq_zero_iff_zero.1 e))
  have Hsg := hid hsg
  have hlow := fun W' h => low_any vp p q W' (hp.below (w' := W') h) hq
  have Hlow := hid hlow
  have rz : ∀ o, Rec ((w.alloc o).alloc (.cells #[.bool false, .slice none 0 0, .slice none 0 0] 29)) (w.heap.size + 1) 29 #[.bool false, .slice none 0 0, .slice none 0 0] := fun o => by
    have := Rec.new (w.alloc o) #[.bool false, .slice none 0 0, .slice none 0 0] 29
    rwa [size_alloc] at this
  have Hrz := hid (rz (.cells #[.bool b, .slice pp n c] 25))
  clear hsg hb rz hlow hp hq hz
  go_enter Try.func36, Try.ntmps36
  go_wp2_with fail
  refine Hsg.out.mono ?_
  rintro e w1 ⟨rfl, b1⟩
  have Hbw : Hid (Below w.heap.size w w1) := ((below1 _ _).alloc (by simp) _).trans (b1.mono (B' := w.heap.size) (by simp; omega))
  have Hr1 := hid (Hrz.out.below b1)
  clear b1 Hsg Hrz
  go_wp2_with fail
  refine (Hlow.out _ Hbw.out).mono ?_
  rintro e w2 ⟨v2, rfl, i2, b2⟩
  have i2p := i2.parts
  obtain ⟨d0, q0, m0, k0, q1, m1, k1, rfl, i2⟩ := i2p
  have r1 := Hr1.out.below b2
  have bw : Below w.heap.size w w2 := Hbw.out.trans (b2.mono (B' := w.heap.size) Hbw.out.size)
  have x := cells3 r1
  obtain ⟨z0, z1, z2⟩ := x
  have f := frozen4 r1
  obtain ⟨f0, f1, f2, -⟩ := f
  have m := put3 r1 (by simp [nonInt]) (.bool d0) (.slice q0 m0 k0) (.slice q1 m1 k1) (by simp [nonInt])
  have mb := hid (m.2.bel w.heap.size w (by omega) bw)
  have mi := hid (i2.stay m.2)
  clear m r1 b2 bw Hr1 Hbw Hlow i2
  go_wp2
  exact bodyPost_ret (v := .tuple #[.agg #[.bool d0, .slice q0 m0 k0, .slice q1 m1 k1], .int .i64 0]) (by simp [results, Try.results36, go_sem, z0, z1, z2]) rfl ⟨_, rfl, mi.out, mb.out⟩

set_option maxRecDepth 100000 in
set_option maxHeartbeats 1600000 in
theorem QNew_none (v0 v1 : Value) (p : Int) (w : World) (h0 : RawAt w v0 p) (h1 : RawAt w v1 0) : Calls Try.prog 11 #[v0, v1] w (RNone w) := by
  obtain ⟨b, p0, n0, c0, rfl⟩ := h0.parts
  obtain ⟨b', p1, n1, c1, rfl⟩ := h1.parts
  have Hr : Hid (∀ o o', Rec (((w.alloc o).alloc o').alloc (.cells #[.bool false, .slice none 0 0, .slice none 0 0] 29)) (w.heap.size + 1 + 1) 29 #[.bool false, .slice none 0 0, .slice none 0 0]) := fun o o' => by
    have := Rec.new ((w.alloc o).alloc o') #[.bool false, .slice none 0 0, .slice none 0 0] 29
    rwa [size_alloc, size_alloc] at this
  have Hb : Hid (∀ o o' o'', Below w.heap.size w (((w.alloc o).alloc o').alloc o'')) := fun o o' o'' => ((below1 _ _).alloc (by simp) _).alloc (by simp; omega) _
  have H1 := hid h1
  clear h0 h1
  go_enter Try.func11, Try.ntmps11
  go_wp2_with fail
  refine (unless_none _ _ _ (H1.out.below (Hb.out _ _ _))).mono ?_
  rintro e w2 ⟨rfl, b2⟩
  have r1 := (Hr.out _ _).below b2
  have bw : Below w.heap.size w w2 := (Hb.out _ _ _).trans (b2.mono (B' := w.heap.size) (Hb.out _ _ _).size)
  have x := cells3 r1
  obtain ⟨z0, z1, z2⟩ := x
  have f := frozen4 r1
  obtain ⟨f0, f1, f2, -⟩ := f
  have m := put3 r1 (by simp [nonInt]) (.bool false) (.slice none 0 0) (.slice none 0 0) (by simp [nonInt])
  have mb := hid (m.2.bel w.heap.size w (by omega) bw)
  clear m r1 b2 bw Hr Hb
  go_wp2
  exact bodyPost_ret (v := .tuple #[.agg #[.bool false, .slice none 0 0, .slice none 0 0], .int .i64 12]) (by simp [results, Try.results11, go_sem, z0, z1, z2]) rfl ⟨rfl, mb.out⟩

set_option maxRecDepth 100000 in
set_option maxHeartbeats 1600000 in
theorem QNew_some (v0 v1 : Value) (p q : Int) (w : World) (h0 : RawAt w v0 p) (h1 : RawAt w v1 q) (hq : q ≠ 0) : Calls Try.prog 11 #[v0, v1] w (RSome (Rat.divInt p q) w) := by
  obtain ⟨b, p0, n0, c0, rfl⟩ := h0.parts
  obtain ⟨b', p1, n1, c1, rfl⟩ := h1.parts
  have Hr : Hid (∀ o o', Rec (((w.alloc o).alloc o').alloc (.cells #[.bool false, .slice none 0 0, .slice none 0 0] 29)) (w.heap.size + 1 + 1) 29 #[.bool false, .slice none 0 0, .slice none 0 0]) := fun o o' => by
    have := Rec.new ((w.alloc o).alloc o') #[.bool false, .slice none 0 0, .slice none 0 0] 29
    rwa [size_alloc, size_alloc] at this
  have Hb : Hid (∀ o o' o'', Below w.heap.size w (((w.alloc o).alloc o').alloc o'')) := fun o o' o'' => ((below1 _ _).alloc (by simp) _).alloc (by simp; omega) _
  have H0 := hid h0; have H1 := hid h1; have Hq := hid hq
  clear h0 h1 hq
  go_enter Try.func11, Try.ntmps11
  go_wp2_with fail
  refine (unless_some _ _ p q q _ (H1.out.below (Hb.out _ _ _)) Hq.out ⟨_, _, _, _, _, _, _, _, rfl, H0.out.below (Hb.out _ _ _), H1.out.below (Hb.out _ _ _)⟩ Hq.out).mono ?_
  rintro e w2 ⟨v2, rfl, i2, b2⟩
  have i2p := i2.parts
  obtain ⟨d0, q0, m0, k0, q1, m1, k1, rfl, i2⟩ := i2p
  have r1 := (Hr.out _ _).below b2
  have bw : Below w.heap.size w w2 := (Hb.out _ _ _).trans (b2.mono (B' := w.heap.size) (Hb.out _ _ _).size)
  have x := cells3 r1
  obtain ⟨z0, z1, z2⟩ := x
  have f := frozen4 r1
  obtain ⟨f0, f1, f2, -⟩ := f
  have m := put3 r1 (by simp [nonInt]) (.bool d0) (.slice q0 m0 k0) (.slice q1 m1 k1) (by simp [nonInt])
  have mb := hid (m.2.bel w.heap.size w (by omega) bw)
  have mi := hid (i2.stay m.2)
  clear m r1 b2 bw Hr Hb i2
  go_wp2
  exact bodyPost_ret (v := .tuple #[.agg #[.bool d0, .slice q0 m0 k0, .slice q1 m1 k1], .int .i64 0]) (by simp [results, Try.results11, go_sem, z0, z1, z2]) rfl ⟨_, rfl, mi.out, mb.out⟩
end Go.Proofs.Yteiniokddopacaa
