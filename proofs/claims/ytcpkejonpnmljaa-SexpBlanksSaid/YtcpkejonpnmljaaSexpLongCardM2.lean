/- Texts put together: Late, SxPut, SxText, SxSteps, SxList. -/
import Derived.Test.YtcpkejonpnmljaaSexpLongCardM1
import Derived.Maps.AppendAt
import Derived.Deep.DeepCutAuto
import Derived.Outline
/- A region that draws its order, one operation of which may come behind a store (two results, stored into two variables). -/
namespace Go.Proofs.Ytcpkejonpnmljaa
open Go.RowKit

def storesWaitBut (md : Region.Mode) (ops : Array Oper) (n late : Nat) : Bool := (List.range ops.size).all fun i => decide (i < n) || (List.range n).all fun j => j == late || reach md ops 6 i j
theorem wpAny_late {P : Program} {ops : Array Oper} {Q : Exit → Act → World → Prop} {a0 : Act} {w0 : World} (n s : Nat) (hsize : ops.size = n + s) (ds : List Tmp) (f : Nat → SFact) (al : List Nat)
    (hd : edgesDown .any ops = true) (late : Nat) (hln : late < n) (hsw : storesWaitBut .any ops n late = true) (hdn : ds.Nodup) (hlen : ds.length = n) (hds : dstsAre ops n ds = true)
    (hal : ∀ i ∈ al, ∀ v w, (f i).P v w → ∃ g, v = .pointer (some ⟨g, 0, none⟩) ∧ g < w.heap.size)
    (hstep : ∀ i o, i < n → ops[i]? = some o → ∀ vs w, vs.length = n → Below w0.heap.size w0 w → (∀ e ∈ o.after, Region.binds .any e = true → (f e.on).P (vs.getD e.on undef) w) →
      ∀ K : Act → World → Prop, Shut (∀ v w', (f i).P v w' → Below w.heap.size w w' → (i ∈ al → v = .pointer (some ⟨w.heap.size, 0, none⟩)) → K ((putAll a0 ds vs).put o.dst v) w') →
        if Region.wanted o (yielded ops (putAll a0 ds vs).tmps) = true then Oper.wp P o (putAll a0 ds vs) w K Q else K ((putAll a0 ds vs).put o.dst undef) w)
    (hend : ∀ vs w, vs.length = n → Below w0.heap.size w0 w → (∀ i, i < n → (f i).P (vs.getD i undef) w) → (∀ i ∈ al, ∀ j ∈ al, i ≠ j → vs.getD i undef ≠ vs.getD j undef) →
      wpAny P .any ops Q s ((List.replicate n true ++ List.replicate s false).toArray) (putAll a0 ds vs) w)
    (hlate : ∀ vs w, vs.length = n → Below w0.heap.size w0 w → (∀ i, i < n → i ≠ late → (f i).P (vs.getD i undef) w) → (∀ i ∈ al, ∀ j ∈ al, i ≠ j → i ≠ late → j ≠ late → vs.getD i undef ≠ vs.getD j undef) →
      wpAny P .any ops Q (s + 1) (((List.replicate n true).set late false ++ List.replicate s false).toArray) (putAll a0 ds vs) w) :
    ∀ (c : Nat) (L : Array Bool) (vs : List Value) (w : World), (L.toList.take n).count false = c → L.size = n + s → (∀ j, n ≤ j → j < n + s → L.getD j true = false) → Closed .any ops L → vs.length = n → Below w0.heap.size w0 w →
      (∀ i, i < n → L.getD i false = true → (f i).P (vs.getD i undef) w) → (∀ i ∈ al, ∀ j ∈ al, i < n → j < n → i ≠ j → L.getD i false = true → L.getD j false = true → vs.getD i undef ≠ vs.getD j undef) →
      (∀ i ∈ al, i < n) → wpAny P .any ops Q (c + s) L (putAll a0 ds vs) w := by
  intro c
  induction c with
  | zero =>
    intro L vs w hc hs hst hcl hvl hb hf hdist haln
    have hall : ∀ i, i < n → L.getD i false = true := fun i hi => by
      have hil : i < L.size := by omega
      cases hb : L[i] with
      | true => simp [Array.getD, hil, hb]
      | false =>
        exfalso
        have hmem : false ∈ L.toList.take n := by
          rw [List.mem_take_iff_getElem]
          exact ⟨i, by simp; omega, by simpa using hb⟩
        have := List.count_pos_iff.2 hmem
        omega
    have hL : L = (List.replicate n true ++ List.replicate s false).toArray := by
      apply Array.ext
      · simp [hs]
      · intro i hi hi2
        by_cases h : i < n
        · have := hall i h
          simp only [Array.getD, hi] at this
          simp [h]
          simpa using this
        · have := hst i (by omega) (by omega)
          simp only [Array.getD, hi] at this
          simp [List.getElem_append, h]
          simpa using this
    rw [Nat.zero_add, hL]
    exact hend vs w hvl hb (fun i hi => hf i hi (hall i hi)) (fun i hi j hj hne => hdist i hi j hj (haln i hi) (haln j hj) hne (hall i (haln i hi)) (hall j (haln j hj)))
  | succ c ih =>
    intro L vs w hc hs hst hcl hvl hb hf hdist haln
    have hnot : ¬ ∀ i, i < n → L.getD i false = true := fun hall => by
      have : (L.toList.take n).count false = 0 := by
        rw [List.count_eq_zero]
        intro hmem
        rw [List.mem_take_iff_getElem] at hmem
        obtain ⟨i, hi, hif⟩ := hmem
        have hi' : i < L.size := by simp at hi; omega
        have := hall i (by simp at hi; omega)
        have h2 : L.getD i false = L[i] := by simp [Array.getD, hi']
        rw [h2] at this
        rw [Array.getElem_toList] at hif
        rw [hif] at this
        cases this
      omega
    by_cases hmiss : ∀ i, i < n → i ≠ late → L.getD i false = true
    · have hlf : L.getD late false = false := by
        cases hb : L.getD late false with
        | false => rfl
        | true => exact absurd (fun i hi => by by_cases h : i = late; · rw [h]; exact hb
                                               · exact hmiss i hi h) hnot
      have hL : L = (((List.replicate n true).set late false ++ List.replicate s false)).toArray := by
        apply Array.ext
        · simp [hs]
        · intro i hi hi2
          by_cases h : i < n
          · by_cases h2 : i = late
            · subst h2
              simp only [Array.getD, hi] at hlf
              simp [h]
              simpa using hlf
            · have := hmiss i h h2
              simp only [Array.getD, hi] at this
              simp [h, List.getElem_set_ne (Ne.symm h2)]
              simpa using this
          · have := hst i (by omega) (by omega)
            simp only [Array.getD, hi] at this
            simp [List.getElem_append, h]
            simpa using this
      have hc0 : c = 0 := by
        have h1 : L.toList.take n = (List.replicate n true).set late false := by
          rw [hL]; simp
        rw [h1, List.count_set (by simpa using hln), List.count_replicate, List.getElem_replicate] at hc
        have e1 : (true == false) = false := rfl
        rw [e1] at hc
        simp only [beq_self_eq_true, if_true, Bool.false_eq_true, if_false] at hc
        omega
      subst hc0
      rw [show 0 + 1 + s = s + 1 by omega, hL]
      exact hlate vs w hvl hb (fun i hi hne => hf i hi (hmiss i hi hne)) (fun i hi j hj hne h1 h2 => hdist i hi j hj (haln i hi) (haln j hj) hne (hmiss i (haln i hi) h1) (hmiss j (haln j hj) h2))
    rw [show c + 1 + s = (c + s) + 1 by omega]
    refine ⟨fun hr => ?_, fun i hi => ?_⟩
    · exfalso
      apply hnot
      intro i hi
      have := all_listed hd (by rw [hs, hsize]) hr i (by omega)
      have hil : i < L.size := by omega
      simpa [Array.getD, hil] using this
    · obtain ⟨hun, o, ho, hall⟩ := mem_ready.1 hi
      have hio : i < ops.size := (Array.getElem?_eq_some_iff.1 ho).1
      have hil : i < L.size := by omega
      have hin : i < n := by
        rcases Nat.lt_or_ge i n with h | h
        · exact h
        · exfalso
          apply hmiss
          intro j hj hjl
          have h1 := List.all_eq_true.1 hsw i (by simpa using hio)
          simp only [Bool.or_eq_true, decide_eq_true_eq] at h1
          rcases h1 with h1 | h1
          · omega
          · have h2 := List.all_eq_true.1 h1 j (by simpa using hj)
            simp only [Bool.or_eq_true, beq_iff_eq] at h2
            rcases h2 with h2 | h2
            · exact absurd h2 hjl
            · exact reach_listed hcl 6 i o j ho hall h2
      have hdst : o.dst = ds[i]? := by
        have h1 := List.all_eq_true.1 hds i (by simpa using hin)
        rw [ho] at h1
        simpa using h1
      have hdi : ds[i]? = some (ds[i]'(by omega)) := by simp
      refine wpOp_step ho (fun K hK => hstep i o hin ho vs w hvl hb (fun e he hbd => ?_) K (fun v w' hv hb' hp => ?_))
      · have hl := hall e he hbd
        have hlt : e.on < n := by
          rcases Nat.lt_or_ge e.on n with h | h
          · exact h
          · exfalso
            rcases Nat.lt_or_ge e.on (n + s) with h2 | h2
            · have := hst e.on h h2
              have hl2 : e.on < L.size := by omega
              simp only [Array.getD, hl2] at this hl
              simp at this hl
              rw [this] at hl; cases hl
            · have : ¬ e.on < L.size := by omega
              simp [Array.getD, this] at hl
        exact hf e.on hlt hl
      · apply hK
        rw [hdst, hdi, putAll_set hdn hdi (by omega)]
        have hset : ∀ j, i ≠ j → (L.setIfInBounds i true).getD j false = L.getD j false := fun j h => getD_set_ne false h
        refine ih (L.setIfInBounds i true) (vs.set i v) w' ?_ (by simpa using hs) ?_ ?_ (by simpa using hvl) (hb.trans (hb'.mono hb.size)) ?_ ?_ haln
        · have hf' : (L.toList.take n)[i]'(by simp; omega) = false := by
            simp only [List.getElem_take]
            simpa [Array.getD, hil] using hun
          have := count_false_set (L.toList.take n) i (by simp; omega) hf'
          rw [Array.toList_setIfInBounds, ← List.take_set] at *
          omega
        · intro j hj hj2
          rw [getD_set_ne true (by omega)]
          exact hst j hj hj2
        · intro j o' hjo hjl e he hbd
          by_cases hji : i = j
          · subst hji
            rw [ho] at hjo
            cases hjo
            exact getD_set_true (hall e he hbd)
          · rw [hset j hji] at hjl
            exact getD_set_true (hcl j o' hjo hjl e he hbd)
        · intro j hj hjl
          by_cases hji : i = j
          · subst hji
            rw [getD_set_list_self (by omega)]
            exact hv
          · rw [hset j hji] at hjl
            rw [getD_set_list hji]
            exact (f j).st _ _ _ (hf j hj hjl) hb'
        · intro j hj k hk hjn hkn hjk hjl hkl
          have old : ∀ x, x ∈ al → x < n → i ≠ x → (L.setIfInBounds i true).getD x false = true → vs.getD x undef ≠ .pointer (some ⟨w.heap.size, 0, none⟩) := fun x hx hxn hix hxl => by
            rw [hset x hix] at hxl
            obtain ⟨g, hg, hgl⟩ := hal x hx _ _ (hf x hxn hxl)
            rw [hg]
            intro e
            injection e with e
            injection e with e
            injection e with e
            omega
          by_cases hji : i = j
          · subst hji
            rw [getD_set_list_self (by omega), getD_set_list hjk, hp hj]
            exact (old k hk hkn hjk hkl).symm
          · by_cases hki : i = k
            · subst hki
              rw [getD_set_list_self (by omega), getD_set_list hji, hp hk]
              exact old j hj hjn hji hjl
            · rw [getD_set_list hji, getD_set_list hki]
              rw [hset j hji] at hjl
              rw [hset k hki] at hkl
              exact hdist j hj k hk hjn hkn hjk hjl hkl

theorem wp_region_late {P : Program} {ops : Array Oper} {Q : Exit → Act → World → Prop} {id : Nat} {a0 : Act} {w0 : World} (n s : Nat) (ds : List Tmp) (vs0 : List Value) (f : Nat → SFact) (al : List Nat) (hm : P.follows .mixedOrders = true)
    (hsize : ops.size = n + s) (hd : edgesDown .any ops = true) (late : Nat) (hln : late < n) (hsw : storesWaitBut .any ops n late = true) (hdn : ds.Nodup) (hlen : ds.length = n) (hds : dstsAre ops n ds = true) (hv0 : vs0.length = n) (haln : ∀ i ∈ al, i < n)
    (he : a0 = putAll a0 ds vs0) (hal : ∀ i ∈ al, ∀ v w, (f i).P v w → ∃ g, v = .pointer (some ⟨g, 0, none⟩) ∧ g < w.heap.size)
    (hstep : ∀ i o, i < n → ops[i]? = some o → ∀ vs w, vs.length = n → Below w0.heap.size w0 w → (∀ e ∈ o.after, Region.binds .any e = true → (f e.on).P (vs.getD e.on undef) w) →
      ∀ K : Act → World → Prop, Shut (∀ v w', (f i).P v w' → Below w.heap.size w w' → (i ∈ al → v = .pointer (some ⟨w.heap.size, 0, none⟩)) → K ((putAll a0 ds vs).put o.dst v) w') →
        if Region.wanted o (yielded ops (putAll a0 ds vs).tmps) = true then Oper.wp P o (putAll a0 ds vs) w K Q else K ((putAll a0 ds vs).put o.dst undef) w)
    (hend : ∀ vs w, vs.length = n → Below w0.heap.size w0 w → (∀ i, i < n → (f i).P (vs.getD i undef) w) → (∀ i ∈ al, ∀ j ∈ al, i ≠ j → vs.getD i undef ≠ vs.getD j undef) →
      wpAny P .any ops Q s ((List.replicate n true ++ List.replicate s false).toArray) (putAll a0 ds vs) w)
    (hlate : ∀ vs w, vs.length = n → Below w0.heap.size w0 w → (∀ i, i < n → i ≠ late → (f i).P (vs.getD i undef) w) → (∀ i ∈ al, ∀ j ∈ al, i ≠ j → i ≠ late → j ≠ late → vs.getD i undef ≠ vs.getD j undef) →
      wpAny P .any ops Q (s + 1) (((List.replicate n true).set late false ++ List.replicate s false).toArray) (putAll a0 ds vs) w) : (Code.region id ops true).wp P Q a0 w0 := by
  refine wp_region_any hm ?_
  have := wpAny_late (a0 := a0) (w0 := w0) n s hsize ds f al hd late hln hsw hdn hlen hds hal hstep hend hlate n (Array.replicate ops.size false) vs0 w0.drew
    (by rw [hsize]; simp [List.take_replicate, Nat.min_eq_left (Nat.le_add_right n s)]) (by simp [hsize]) (by intro j hj hj2; simp [Array.getD, hsize, hj2]) (by intro j o _ h; simp [Array.getD] at h) hv0 ((Below.refl _ _).drew)
    (by intro i _ h; simp [Array.getD] at h) (by intro i _ j _ _ _ _ h; simp [Array.getD] at h) haln
  rw [← he, ← hsize] at this
  exact this
theorem wpAny_two {P : Program} {ops : Array Oper} {Q : Exit → Act → World → Prop} {md : Region.Mode} {i j fuel : Nat} {o o' : Oper} {listed : Array Bool} {a : Act} {w : World} (hr : Region.ready md ops listed = [i, j]) (ho : ops[i]? = some o) (ho' : ops[j]? = some o')
    (h : ∀ K : Act → World → Prop, Shut (∀ a w, wpAny P md ops Q fuel (listed.setIfInBounds i true) a w → K a w) → if Region.wanted o (yielded ops a.tmps) = true then Oper.wp P o a w K Q else K (a.put o.dst undef) w)
    (h' : ∀ K : Act → World → Prop, Shut (∀ a w, wpAny P md ops Q fuel (listed.setIfInBounds j true) a w → K a w) → if Region.wanted o' (yielded ops a.tmps) = true then Oper.wp P o' a w K Q else K (a.put o'.dst undef) w) : wpAny P md ops Q (fuel + 1) listed a w := by
  refine ⟨fun h0 => (by rw [hr] at h0; cases h0), ?_⟩
  rw [hr]
  intro x hx
  simp only [List.mem_cons, List.not_mem_nil, or_false] at hx
  rcases hx with rfl | rfl
  · exact wpOp_step ho (fun K hK => h K hK)
  · exact wpOp_step ho' (fun K hK => h' K hK)
end Go.Proofs.Ytcpkejonpnmljaa
/- (*sexp.reader).put: an expression behind the parts of the innermost list. -/
namespace Go.Proofs.Ytcpkejonpnmljaa
open Go.RowKit

def sxEq (v0 : Value) : SFact := ⟨fun v _ => v = v0, fun _ _ _ h _ => h⟩
def zeroEx : Array Value := #[.int .i64 0, .int .i64 0, .string ⟨#[]⟩, .slice none 0 0]
/-- a row of one expression that is blank, in a block of its own -/
def sxNew (B : Nat) : SFact := ⟨fun v w => ∃ g, v = .slice (some ⟨g, 0, none⟩) 1 1 ∧ w.heap[g]? = some (.cells zeroEx 30 (0, 0)) ∧ B ≤ g,
  fun _ _ _ ⟨g, h1, h2, h3⟩ hb => ⟨g, h1, (hb.block g (lt_of_heap h2)).trans h2, h3⟩⟩
theorem sx_new_cells {w : World} {g : Nat} {t : TypeId} (h : w.heap[g]? = some (.cells zeroEx t (0, 0))) : ∀ j u, ([.int .i64 0, .int .i64 0, .string ⟨#[]⟩, .slice none 0 0] : List Value)[j]? = some u → w.cell? ((⟨g, 0, none⟩ : Addr).add j) = some u := by
  intro j u hj
  rw [Go.WideShapes.add_plain, cell_of_row w g _ _ t (0, 0) h, Nat.zero_add]
  simpa [zeroEx] using hj
theorem len7 {vs : List Value} (h : vs.length = 7) : ∃ a b c d e f g, vs = [a, b, c, d, e, f, g] := by
  match vs, h with
  | [a, b, c, d, e, f, g], _ => exact ⟨a, b, c, d, e, f, g, rfl⟩
/-- 'append(v, x...)', v a row of the call's own, as one step of a region -/
theorem sx_step_append {P : Program} {w : World} {o : Oper} {a : Act} {K : Act → World → Prop} {Q : Exit → Act → World → Prop} (s x : Operand) (t : TypeId)
    (ho : o.op = .call { callee := .builtin .append, args := #[s, x], argTypes := #[t, t] })
    (base : Nat) (e : TypeId) (i : TypeInfo) (z : Value) (size bytes : Nat) (ht : P.underlying t = some (.slice e)) (hi : P.info? e = some i) (hz : i.zero = some z)
    (hsize : i.size = size) (hby : i.bytes = bytes) (hzs : z.cells.size = size) (hsz : 0 < size)
    (v : Value) (n : Nat) (xs : List Value) (hs : a.eval s = v) (hown : w.ownsRow base e size v n xs)
    (ad : Addr) (m c : Nat) (news : List Value) (hx : a.eval x = .slice (some ad) m c) (hl : news.length = m * size) (hnews : ∀ j u, news[j]? = some u → w.cell? (ad.add j) = some u) (h1 : ∀ u ∈ news, u.oneCell' = true)
    (h63 : n + m ≤ maxLen) (hbytes : (n + m) * bytes ≤ 140737488355328) (hbase : base ≤ w.heap.size)
    (h : ∀ v' w', w'.ownsRow base e size v' (n + m) (xs ++ news) → w.grownBy w' v.ownBlock → (v'.ownBlock = v.ownBlock ∨ v'.ownBlock = some w.heap.size) → K (a.put o.dst v') w') :
    Oper.wp P o a w K Q := by
  obtain ⟨v', w', hr, h2, h3, -, h4⟩ := run_append_own_at (P := P) w base t o.type e i z size bytes ht hi hz hsize hby hzs hsz v n xs hown ad m c news hl hnews h1 h63 hbytes hbase
  unfold Oper.wp
  simp [execOp, ho, resolve, invoke, builtin, hs, hx, hr, Result.andThen]
  exact h v' w' h2 h3 h4
/-- four cells stored, then one elsewhere, or the other way about: what is left, by blocks -/
theorem own_set4 {w : World} {B g n cap : Nat} {t : TypeId} {xs zs : List Value} {k : Nat} (h : w.ownsRow B t 4 (.slice (some ⟨g, 0, none⟩) n cap) n (xs ++ zs)) (hk : xs.length = k * 4) (hz : zs.length = 4) (a b c d : Value) :
    ((((w.setCell ⟨g, k * 4, none⟩ a).setCell ⟨g, k * 4 + 1, none⟩ b).setCell ⟨g, k * 4 + 2, none⟩ c).setCell ⟨g, k * 4 + 3, none⟩ d).ownsRow B t 4 (.slice (some ⟨g, 0, none⟩) n cap) n (xs ++ [a, b, c, d]) := by
  have h1 := (h.stored (k * 4) a).1
  have h2 := (h1.stored (k * 4 + 1) b).1
  have h3 := (h2.stored (k * 4 + 2) c).1
  have h4 := (h3.stored (k * 4 + 3) d).1
  match zs, hz with
  | [z0, z1, z2, z3], _ =>
    have e : (((((xs ++ [z0, z1, z2, z3]).set (k * 4) a).set (k * 4 + 1) b).set (k * 4 + 2) c).set (k * 4 + 3) d) = xs ++ [a, b, c, d] := by
      rw [List.set_append_right _ _ (by omega), List.set_append_right _ _ (by omega), List.set_append_right _ _ (by omega), List.set_append_right _ _ (by omega), hk]
      rw [show k * 4 - k * 4 = 0 by omega, show k * 4 + 1 - k * 4 = 1 by omega, show k * 4 + 2 - k * 4 = 2 by omega, show k * 4 + 3 - k * 4 = 3 by omega]
      rfl
    rwa [e] at h4
theorem set4_heap {w : World} {g b : Nat} (hb : b ≠ g) {i j k l : Nat} {u0 u1 u2 u3 : Value} : ((((w.setCell ⟨g, i, none⟩ u0).setCell ⟨g, j, none⟩ u1).setCell ⟨g, k, none⟩ u2).setCell ⟨g, l, none⟩ u3).heap[b]? = w.heap[b]? := by
  rw [heap_setCell_other _ ⟨g, l, none⟩ b _ hb, heap_setCell_other _ ⟨g, k, none⟩ b _ hb, heap_setCell_other _ ⟨g, j, none⟩ b _ hb, heap_setCell_other _ ⟨g, i, none⟩ b _ hb]
theorem set4_far {w : World} {B g g' n cap size : Nat} {t : TypeId} {xs : List Value} (h : w.ownsRow B t size (.slice (some ⟨g', 0, none⟩) n cap) n xs) (hne : g ≠ g') (i j k l : Nat) (u0 u1 u2 u3 : Value) :
    ((((w.setCell ⟨g, i, none⟩ u0).setCell ⟨g, j, none⟩ u1).setCell ⟨g, k, none⟩ u2).setCell ⟨g, l, none⟩ u3).ownsRow B t size (.slice (some ⟨g', 0, none⟩) n cap) n xs :=
  own_move h fun b hb => set4_heap (by rintro rfl; simp [Value.ownBlock] at hb; exact hne hb.symm)
/-- what is left by the append and the two stores -/
theorem put_end {B g gl cap a m c gb cb : Nat} {p : Option Addr} {W1 wx w2 w3 : World} {s : ByteArray} {ls : List Lv} {x : Lv} {e : Ex} {ev : Value} {vs : List Value} (h : RdAt B W1 g gl cap s a (ls ++ [x])) (hx : OpenAt W1 B (SxOut W1 (ls ++ [x]) B) x vs)
    (hev : RowAt W1 (SxOut W1 (ls ++ [x]) B) ev e.parts) (hv : x.v = .slice p m c) (hm : m = x.l.length) (hb : Below W1.heap.size W1 wx) (hg : wx.grownBy w2 (Value.slice p m c).ownBlock)
    (hat : (Value.slice (some ⟨gb, 0, none⟩) (m + 1) cb).ownBlock = (Value.slice p m c).ownBlock ∨ (Value.slice (some ⟨gb, 0, none⟩) (m + 1) cb).ownBlock = some wx.heap.size)
    (hr : ∀ b, b ≠ gb → b ≠ gl → w3.heap[b]? = w2.heap[b]?) (hown : w3.ownsRow B 30 4 (.slice (some ⟨gb, 0, none⟩) (m + 1) cb) (m + 1) (exRow x.l vs ++ [.int .i64 (e.kind : Nat), .int .i64 (e.at_ : Nat), .string e.text, ev]))
    (hlv : w3.ownsRow B 63 2 (.slice (some ⟨gl, 0, none⟩) (ls.length + 1) cap) (ls.length + 1) (lvCells (ls ++ [⟨x.at_, .slice (some ⟨gb, 0, none⟩) (m + 1) cb, x.l ++ [e]⟩]))) :
    RdAt B w3 g gl cap s a (ls ++ [⟨x.at_, .slice (some ⟨gb, 0, none⟩) (m + 1) cb, x.l ++ [e]⟩]) := by
  rw [← hv] at hat hg
  refine h.put hx hev (fun b hb1 hb2 hb3 => ?_) hlv (by rw [← hm]; exact hown) ?_
  · have hbg : b ≠ gb := by
      rintro rfl
      rcases hat with h5 | h5
      · exact hb2 h5.symm
      · simp [Value.ownBlock] at h5
        have := hb.size
        omega
    rw [hr b hbg hb3, hg.block b (Nat.lt_of_lt_of_le hb1 hb.size) (fun e => hb2 e.symm), hb.block b hb1]
  · rcases hat with h5 | h5
    · exact .inl h5
    · exact .inr ⟨_, h5, hb.size⟩
theorem put_kept {B g gl cap a m c gb cb : Nat} {p : Option Addr} {W1 wx w2 w3 : World} {s : ByteArray} {ls : List Lv} {x : Lv} {vs : List Value} (h : RdAt B W1 g gl cap s a (ls ++ [x])) (hx : OpenAt W1 B (SxOut W1 (ls ++ [x]) B) x vs)
    (hv : x.v = .slice p m c) (hb : Below W1.heap.size W1 wx) (hg : wx.grownBy w2 (Value.slice p m c).ownBlock)
    (hat : (Value.slice (some ⟨gb, 0, none⟩) (m + 1) cb).ownBlock = (Value.slice p m c).ownBlock ∨ (Value.slice (some ⟨gb, 0, none⟩) (m + 1) cb).ownBlock = some wx.heap.size)
    (hr : ∀ b, b ≠ gb → b ≠ gl → w3.heap[b]? = w2.heap[b]?) : Kept W1 w3 := fun b cs t fr hbk h1 h2 h3 => by
  rw [← hv] at hat hg
  have hlt := lt_of_heap hbk
  have hgl : b ≠ gl := by
    rintro rfl
    obtain ⟨cs', hc⟩ := (own_type h.lv (k := b) rfl).2
    rw [hbk] at hc
    injection hc with hc
    injection hc with _ h4
    exact h2 h4
  have hxb : x.v.ownBlock ≠ some b := fun hk => by
    obtain ⟨-, cs', hc⟩ := hx.blk hk
    rw [hbk] at hc
    injection hc with hc
    injection hc with _ h4
    exact h1 h4
  have hbg : b ≠ gb := by
    rintro rfl
    rcases hat with h5 | h5
    · exact hxb h5.symm
    · simp [Value.ownBlock] at h5
      have := hb.size
      omega
  rw [hr b hbg hgl, hg.block b (Nat.lt_of_lt_of_le hlt hb.size) (fun e => hxb e.symm), hb.block b hlt]
theorem RowAt.form {w : World} {D : Nat → Prop} {v : Value} {l : List Ex} (h : RowAt w D v l) : ∃ p n c, v = .slice p n c := by
  cases h with
  | nil => exact ⟨_, _, _, rfl⟩
  | row => exact ⟨_, _, _, rfl⟩
theorem infoExpr : (Try.prog.info? 30).map (fun i => (i.zero, i.size, i.bytes)) = some (some (.agg #[.int .i64 0, .int .i64 0, .string ⟨#[]⟩, .slice none 0 0]), 4, 56) := by kernel_rfl

set_option maxRecDepth 100000 in
set_option maxHeartbeats 3200000 in
theorem put_any (B g gl cap : Nat) (s : ByteArray) (a : Nat) (ls : List Lv) (x : Lv) (e : Ex) (ev : Value) (w : World) (h : RdAt B w g gl cap s a (ls ++ [x])) (hev : RowAt w (SxOut w (ls ++ [x]) B) ev e.parts)
    (hn : ls.length ≤ 1000) (hm : x.l.length ≤ 1000000) (hB : B ≤ w.heap.size) :
    Calls Try.prog 53 #[.pointer (some ⟨g, 0, none⟩), .agg #[.int .i64 (e.kind : Nat), .int .i64 (e.at_ : Nat), .string e.text, ev]] w
      fun en w' => en = .returned (.tuple #[]) ∧ ∃ v', RdAt B w' g gl cap s a (ls ++ [⟨x.at_, v', x.l ++ [e]⟩]) ∧ Fr B w w' := by
  obtain ⟨pe, ne, ce, rfl⟩ := hev.form
  have c2 : ∀ o, (w.alloc o).cell? ⟨g, 2, none⟩ = some (.slice (some ⟨gl, 0, none⟩) (ls.length + 1) cap) := by
    intro o
    rw [cell_of_row (w.alloc o) g 2 _ _ (0, 0) ((heap_alloc_old w o (lt_of_heap h.hd)).trans h.hd)]
    simp
  have hin := fun o => innermost_any g gl ls.length cap (w.alloc o) (c2 o) (by omega)
  have Hin := hid hin
  have H := hid h; have Hev := hid hev
  obtain ⟨i0, hi, hz0, hz1, hz2⟩ := info_parts infoExpr
  clear hin c2 h hev
  go_enter Try.func53, Try.ntmps53
  go_wp2_with fail
  refine (Hin.out _).mono ?_
  rintro en w1 ⟨rfl, n1, rfl⟩
  go_upto_region 2 with fail
  generalize hW : World.drewN (World.alloc w _) n1 = W1
  have HBW : Hid (Below w.heap.size w W1) := by unfold Hid; rw [← hW]; exact below_drewN (below1 _ _) _
  have hbox : W1.heap[w.heap.size]? = some (.cells #[.int .i64 (e.kind : Nat), .int .i64 (e.at_ : Nat), .string e.text, .slice pe ne ce] 30 (0, 0)) := by rw [← hW]; exact heap_alloc_new w _
  have h1 := H.out.below HBW.out
  have hev1 := Hev.out.kept HBW.out
  clear hW H Hev Hin
  obtain ⟨vs, hx⟩ := h1.open_ x (by simp)
  obtain ⟨p, c, hv⟩ : ∃ p c, x.v = .slice p x.l.length c := by
    rcases hx.own.2 with ⟨e1, e2⟩ | ⟨g5, c5, cur, e1, -⟩
    · exact ⟨none, 0, by rw [e1, e2]⟩
    · exact ⟨_, _, e1⟩
  obtain ⟨m, hm'⟩ : ∃ m, m = x.l.length := ⟨_, rfl⟩
  have Hm := hid hm'
  rw [← hm'] at hv hm
  have hlev : W1.cell? ⟨gl, ls.length * 2 + 1, none⟩ = some (.slice p m c) := by
    have h2 := h1.lv
    rw [List.length_append, List.length_singleton] at h2
    rw [h2.cellAt (ls.length * 2 + 1) (by omega), lvCells_snoc, List.getElem?_append_right (by rw [lvCells_length]; omega), lvCells_length, show ls.length * 2 + 1 - ls.length * 2 = 1 by omega, hv]
    rfl
  have HS : Hid (∀ w', Below W1.heap.size W1 w' → w'.cell? ⟨w.heap.size, 0, none⟩ = some (.int .i64 (e.kind : Nat)) ∧ w'.cell? ⟨w.heap.size, 1, none⟩ = some (.int .i64 (e.at_ : Nat)) ∧ w'.cell? ⟨w.heap.size, 2, none⟩ = some (.string e.text) ∧ w'.cell? ⟨w.heap.size, 3, none⟩ = some (.slice pe ne ce) ∧
      w'.cell? ⟨gl, ls.length * 2 + 1, none⟩ = some (.slice p m c)) := by
    intro w' hb
    have hbx := (hb.block w.heap.size (lt_of_heap hbox)).trans hbox
    exact ⟨cell_of_row w' _ 0 _ _ (0, 0) hbx, cell_of_row w' _ 1 _ _ (0, 0) hbx, cell_of_row w' _ 2 _ _ (0, 0) hbx, cell_of_row w' _ 3 _ _ (0, 0) hbx, (hb.cell (p := ⟨gl, _, none⟩) (lt_of_heap (own_type h1.lv (k := gl) rfl).2.choose_spec)).trans hlev⟩
  have Hev := hid hev1; have H := hid h1
  clear hbox hlev hev1 h1 hm'
  refine wp_region_facts (w0 := W1) 7 6 [7, 8, 9, 10, 11, 12, 13] [undef, undef, undef, undef, undef, undef, undef]
    (fun i => match i with | 0 => sxEq (.pointer (some ⟨gl, ls.length * 2, none⟩)) | 1 => sxEq (.pointer (some ⟨gl, ls.length * 2, none⟩)) | 2 => sxEq (.pointer (some ⟨gl, ls.length * 2 + 1, none⟩)) | 3 => sxEq (.slice p m c) | 4 => sxEq (.agg #[.int .i64 (e.kind : Nat), .int .i64 (e.at_ : Nat), .string e.text, .slice pe ne ce]) | 5 => sxEq (.int .i64 (m : Nat)) | _ => sxNew W1.heap.size) [] (by kernel_rfl) (by kernel_rfl) (by kernel_rfl) (by kernel_rfl) (by decide) rfl (by kernel_rfl) rfl (by simp) ?he1 ?_ ?_ ?_
  case he1 => simp only [putAll, Act.put, List.setIfInBounds_toArray, List.set_cons_zero, List.set_cons_succ]
  · intro i hi; simp at hi
  · intro i o hi ho vs wx hvl hb hdep K hK
    have hvs := len7 hvl
    obtain ⟨s7, s8, s9, s10, s11, s12, s13, rfl⟩ := hvs
    clear hvl
    have hk := HS.out wx hb
    go_split_ands
    rcases i with _ | _ | _ | _ | _ | _ | _ | i
    all_goals (simp only [List.getElem?_toArray, List.getElem?_cons_zero, List.getElem?_cons_succ, Option.some.injEq] at ho)
    all_goals try (subst ho)
    all_goals try simp only [putAll, Act.put, List.setIfInBounds_toArray, List.set_cons_zero, List.set_cons_succ]
    · go_simp
      have hK' := hK.out
      simp only [putAll, Act.put, List.setIfInBounds_toArray, List.set_cons_zero, List.set_cons_succ] at hK'
      exact hK' _ _ rfl (Below.refl _ _) (by simp)
    · have e0 : s7 = _ := hdep ⟨0, .data⟩ (by simp) rfl
      subst e0
      go_simp
      have hK' := hK.out
      simp only [putAll, Act.put, List.setIfInBounds_toArray, List.set_cons_zero, List.set_cons_succ] at hK'
      exact hK' _ _ rfl (Below.refl _ _) (by simp)
    · have e1 : s8 = _ := hdep ⟨1, .data⟩ (by simp) rfl
      subst e1
      go_simp
      have hK' := hK.out
      simp only [putAll, Act.put, List.setIfInBounds_toArray, List.set_cons_zero, List.set_cons_succ] at hK'
      exact hK' _ _ rfl (Below.refl _ _) (by simp)
    · have e2 : s9 = _ := hdep ⟨2, .data⟩ (by simp) rfl
      subst e2
      go_simp
      have hK' := hK.out
      simp only [putAll, Act.put, List.setIfInBounds_toArray, List.set_cons_zero, List.set_cons_succ] at hK'
      exact hK' _ _ rfl (Below.refl _ _) (by simp)
    · go_simp
      have hK' := hK.out
      simp only [putAll, Act.put, List.setIfInBounds_toArray, List.set_cons_zero, List.set_cons_succ] at hK'
      exact hK' _ _ rfl (Below.refl _ _) (by simp)
    · have e3 : s10 = _ := hdep ⟨3, .data⟩ (by simp) rfl
      subst e3
      go_simp
      have hK' := hK.out
      simp only [putAll, Act.put, List.setIfInBounds_toArray, List.set_cons_zero, List.set_cons_succ] at hK'
      exact hK' _ _ rfl (Below.refl _ _) (by simp)
    · go_simp
      have hK' := hK.out
      simp only [putAll, Act.put, List.setIfInBounds_toArray, List.set_cons_zero, List.set_cons_succ] at hK'
      exact hK' _ _ ⟨_, rfl, heap_alloc_new _ _, hb.size⟩ (below1 _ _) (by simp)
    · omega
  · intro vs wx hvl hb hf hdist
    have hvs := len7 hvl
    obtain ⟨s7, s8, s9, s10, s11, s12, s13, rfl⟩ := hvs
    have f3 : s10 = .slice p m c := hf 3 (by decide)
    have f0 : s7 = .pointer (some ⟨gl, ls.length * 2, none⟩) := hf 0 (by decide)
    have f4 : s11 = .agg #[.int .i64 (e.kind : Nat), .int .i64 (e.at_ : Nat), .string e.text, .slice pe ne ce] := hf 4 (by decide)
    have f5 : s12 = .int .i64 (m : Nat) := hf 5 (by decide)
    have f6 : (sxNew W1.heap.size).P s13 wx := hf 6 (by decide)
    subst f0 f3 f4 f5
    obtain ⟨g6, rfl, hg6, hB6⟩ := f6
    clear hf hdist hvl
    have hown := hx.own
    rw [hv] at hown
    have hownx : wx.ownsRow B 30 4 (.slice p m c) m (exRow x.l vs) := own_move (Hm.out ▸ hown) fun k hk => hb.block k (by
      obtain ⟨-, cs, hc⟩ := hx.blk (k := k) (by rw [hv]; exact hk)
      exact lt_of_heap hc)
    refine wpAny_one (i := 7) (by kernel_rfl) rfl ?_
    intro K hK
    try simp only [putAll, Act.put, List.setIfInBounds_toArray, List.set_cons_zero, List.set_cons_succ]
    rw [if_pos (by rfl)]
    refine sx_step_append (.tmp 10) (.tmp 13) 24 ?ho B 30 i0 _ 4 56 Try.underlying24 hi hz0 hz1 hz2 rfl (by decide) (.slice p m c) m _ ?hs hownx ⟨g6, 0, none⟩ 1 1 [.int .i64 0, .int .i64 0, .string ⟨#[]⟩, .slice none 0 0] ?hx rfl ?c1 ?c2 ?c3 ?c4 ?c5 ?_
    case ho => rfl
    case hs => rfl
    case hx => rfl
    case c1 => exact sx_new_cells hg6
    case c2 => intro u hu; simp at hu; rcases hu with rfl | rfl | rfl | rfl <;> rfl
    case c3 => unfold maxLen; omega
    case c4 => omega
    case c5 => have := hb.size; have := HBW.out.size; omega
    intro v' w2 hown2 hgrow hat
    have hK' := hK.out
    apply hK'
    clear hK hK'
    obtain ⟨gb, cb, rfl, -, -⟩ := hown2.form (by omega)
    have hlen : (exRow x.l vs).length = m * 4 := by rw [exRow_length _ _ hx.len, Hm.out]
    have hlv := H.out.lv
    rw [List.length_append, List.length_singleton] at hlv
    have hlx : wx.ownsRow B 63 2 (.slice (some ⟨gl, 0, none⟩) (ls.length + 1) cap) (ls.length + 1) (lvCells (ls ++ [x])) := own_move hlv fun k hk => hb.block k (lt_of_heap (own_type hlv hk).2.choose_spec)
    have htl := (own_type hlx (k := gl) rfl).2
    have htb := (own_type hown2 (k := gb) rfl).2
    have hvb : (Value.slice p m c).ownBlock ≠ some gl := fun hk => by
      obtain ⟨cs, h3⟩ := (own_type hownx hk).2
      obtain ⟨cs', h4⟩ := htl
      rw [h3] at h4; simp at h4
    have hl2 : w2.ownsRow B 63 2 (.slice (some ⟨gl, 0, none⟩) (ls.length + 1) cap) (ls.length + 1) (lvCells (ls ++ [x])) := own_move hlx fun k hk => by
      obtain rfl : gl = k := by simpa [Value.ownBlock] using hk
      exact hgrow.block gl (lt_of_heap htl.choose_spec) (fun e => hvb e.symm)
    have hne : gb ≠ gl := by
      rintro rfl
      obtain ⟨cs, h3⟩ := htb
      obtain ⟨cs', h4⟩ := (own_type hl2 (k := gb) rfl).2
      rw [h3] at h4; simp at h4
    have z0 := hown2.cellAt (m * 4) (by omega); have z1 := hown2.cellAt (m * 4 + 1) (by omega); have z2 := hown2.cellAt (m * 4 + 2) (by omega); have z3 := hown2.cellAt (m * 4 + 3) (by omega)
    rw [List.getElem?_append_right (by omega), hlen] at z0 z1 z2 z3
    rw [show m * 4 - m * 4 = 0 by omega] at z0
    rw [show m * 4 + 1 - m * 4 = 1 by omega] at z1
    rw [show m * 4 + 2 - m * 4 = 2 by omega] at z2
    rw [show m * 4 + 3 - m * 4 = 3 by omega] at z3
    simp only [List.getElem?_cons_zero, List.getElem?_cons_succ] at z0 z1 z2 z3
    have f0 := hown2.frozenAt (m * 4); have f1 := hown2.frozenAt (m * 4 + 1); have f2 := hown2.frozenAt (m * 4 + 2); have f3 := hown2.frozenAt (m * 4 + 3)
    have y0 := hl2.cellAt (ls.length * 2 + 1) (by omega)
    rw [lvCells_snoc, List.getElem?_append_right (by rw [lvCells_length]; omega), lvCells_length, show ls.length * 2 + 1 - ls.length * 2 = 1 by omega] at y0
    simp only [List.getElem?_cons_zero, List.getElem?_cons_succ, hv] at y0
    have y1 := hl2.frozenAt (ls.length * 2 + 1)
    have i0' : (0 : Int) ≤ (m : Int) := by omega
    have i1 : ((m : Int)).toNat = m := by omega
    have i2 : (m : Int) < ((m + 1 : Nat) : Int) := by omega
    have Hset : Hid (∀ u : World, u.ownsRow B 63 2 (.slice (some ⟨gl, 0, none⟩) (ls.length + 1) cap) (ls.length + 1) (lvCells (ls ++ [x])) → (u.setCell ⟨gl, ls.length * 2 + 1, none⟩ (.slice (some ⟨gb, 0, none⟩) (m + 1) cb)).ownsRow B 63 2 (.slice (some ⟨gl, 0, none⟩) (ls.length + 1) cap) (ls.length + 1) (lvCells (ls ++ [⟨x.at_, .slice (some ⟨gb, 0, none⟩) (m + 1) cb, x.l ++ [e]⟩]))) := fun u hu => by
      have h5 := (hu.stored (ls.length * 2 + 1) (.slice (some ⟨gb, 0, none⟩) (m + 1) cb)).1
      rwa [lvCells_set ls x _ (x.l ++ [e])] at h5
    have Hlc : Hid ((lvCells (ls ++ [x]))[ls.length * 2 + 1]? = some (.slice p m c)) := by
      unfold Hid
      rw [lvCells_snoc, List.getElem?_append_right (by rw [lvCells_length]; omega), lvCells_length, show ls.length * 2 + 1 - ls.length * 2 = 1 by omega, hv]
      rfl
    have Hzc : Hid (∀ j, j < 4 → (exRow x.l vs ++ [.int .i64 0, .int .i64 0, .string ⟨#[]⟩, .slice none 0 0])[m * 4 + j]? = ([.int .i64 0, .int .i64 0, .string ⟨#[]⟩, .slice none 0 0] : List Value)[j]?) := fun j hj => by
      rw [List.getElem?_append_right (by omega), hlen, show m * 4 + j - m * 4 = j by omega]
    have Hgb := hid (own_type hown2 (k := gb) rfl).1
    have Hgl := hid (own_type hl2 (k := gl) rfl).1
    have Hbl : Hid (Below B w w2) := (((HBW.out.mono (B' := B) hB).trans (hb.mono (B' := B) (Nat.le_trans hB HBW.out.size))).grown hgrow (by have := hb.size; have := HBW.out.size; omega) (fun k hk => (own_type hownx hk).1))
    have Hown2 := hid hown2; have Hl2 := hid hl2; have Hlx := hid hlx; have Hownx := hid hownx; have Hgrow := hid hgrow; have Hat := hid hat; have Hlen := hid hlen; have Hne := hid hne; have Hvb := hid hvb; have Hg6 := hid hg6; have Hv := hid hv; have Hx := hid hx; have Hb := hid hb
    clear hown2 hl2 hlx hownx hgrow hat hlen hne hvb hg6 hlv htl htb hv hx hb hown
    refine wpAny_take (i := 8) (oi := _) (v := .pointer (some ⟨gb, m * 4, none⟩)) rfl (by kernel_rfl) (by kernel_rfl) (by kernel_rfl) (fun _ _ _ h => h) (Or.inl ⟨by rfl, ?_⟩) ?_
    · intro w; go_simp; (try (intro hh; exact absurd hh (by omega)))
    show wpAny _ _ _ _ _ _ (Act.put _ (some 15) _) _
    try simp only [putAll, Act.put, List.setIfInBounds_toArray, List.set_cons_zero, List.set_cons_succ]
    refine wpAny_take (i := 10) (oi := _) (v := .pointer (some ⟨gl, ls.length * 2, none⟩)) rfl (by kernel_rfl) (by kernel_rfl) (by kernel_rfl) (fun _ _ _ h => h) (Or.inl ⟨by rfl, ?_⟩) ?_
    · intro w; go_simp; (try (intro hh; exact absurd hh (by omega)))
    show wpAny _ _ _ _ _ _ (Act.put _ (some 16) _) _
    try simp only [putAll, Act.put, List.setIfInBounds_toArray, List.set_cons_zero, List.set_cons_succ]
    refine wpAny_take (i := 11) (oi := _) (v := .pointer (some ⟨gl, ls.length * 2 + 1, none⟩)) rfl (by kernel_rfl) (by kernel_rfl) (by kernel_rfl) (fun _ _ _ h => h) (Or.inl ⟨by rfl, ?_⟩) ?_
    · intro w; go_simp; (try (intro hh; exact absurd hh (by omega)))
    show wpAny _ _ _ _ _ _ (Act.put _ (some 17) _) _
    try simp only [putAll, Act.put, List.setIfInBounds_toArray, List.set_cons_zero, List.set_cons_succ]
    refine wpAny_two (i := 9) (j := 12) (by kernel_rfl) rfl rfl ?_ ?_
    · intro K hK
      try simp only [putAll, Act.put, List.setIfInBounds_toArray, List.set_cons_zero, List.set_cons_succ]
      go_simp
      have hK' := hK.out
      apply hK'
      clear hK hK'
      have own2 := own_set4 Hown2.out Hlen.out rfl (.int .i64 (e.kind : Nat)) (.int .i64 (e.at_ : Nat)) (.string e.text) (.slice pe ne ce)
      have lvy := set4_far Hl2.out Hne.out (m * 4) (m * 4 + 1) (m * 4 + 2) (m * 4 + 3) (.int .i64 (e.kind : Nat)) (.int .i64 (e.at_ : Nat)) (.string e.text) (.slice pe ne ce)
      have rsy : ∀ b, b ≠ gb → (((((w2.setCell ⟨gb, m * 4, none⟩ (.int .i64 (e.kind : Nat))).setCell ⟨gb, m * 4 + 1, none⟩ (.int .i64 (e.at_ : Nat))).setCell ⟨gb, m * 4 + 2, none⟩ (.string e.text)).setCell ⟨gb, m * 4 + 3, none⟩ (.slice pe ne ce))).heap[b]? = w2.heap[b]? := fun b hb => set4_heap hb
      have bly : Below B w (((((w2.setCell ⟨gb, m * 4, none⟩ (.int .i64 (e.kind : Nat))).setCell ⟨gb, m * 4 + 1, none⟩ (.int .i64 (e.at_ : Nat))).setCell ⟨gb, m * 4 + 2, none⟩ (.string e.text)).setCell ⟨gb, m * 4 + 3, none⟩ (.slice pe ne ce))) := (((Hbl.out.setCell (p := ⟨gb, _, none⟩) Hgb.out _).setCell (p := ⟨gb, _, none⟩) Hgb.out _).setCell (p := ⟨gb, _, none⟩) Hgb.out _).setCell (p := ⟨gb, _, none⟩) Hgb.out _
      generalize ((((w2.setCell ⟨gb, m * 4, none⟩ (.int .i64 (e.kind : Nat))).setCell ⟨gb, m * 4 + 1, none⟩ (.int .i64 (e.at_ : Nat))).setCell ⟨gb, m * 4 + 2, none⟩ (.string e.text)).setCell ⟨gb, m * 4 + 3, none⟩ (.slice pe ne ce)) = wy at *
      have y0 := lvy.cellAt (ls.length * 2 + 1) (by omega)
      have y1 := lvy.frozenAt (ls.length * 2 + 1)
      rw [Hlc.out] at y0
      have own2 := hid own2; have lvy := hid lvy; have rsy := hid rsy; have bly := hid bly
      refine wpAny_one (i := 12) (by kernel_rfl) rfl ?_
      intro K hK
      go_simp
      have hK' := hK.out
      apply hK'
      clear hK hK'
      refine wpAny_done (by kernel_rfl) ?_ _
      have own3 := own_move (w' := wy.setCell ⟨gl, ls.length * 2 + 1, none⟩ (.slice (some ⟨gb, 0, none⟩) (m + 1) cb)) own2.out fun k hk => heap_setCell_other wy ⟨gl, _, none⟩ k _ (by rintro rfl; simp [Value.ownBlock] at hk; exact Hne.out hk)
      have lv3 := Hset.out _ lvy.out
      have rs3 : ∀ b, b ≠ gb → b ≠ gl → (wy.setCell ⟨gl, ls.length * 2 + 1, none⟩ (.slice (some ⟨gb, 0, none⟩) (m + 1) cb)).heap[b]? = w2.heap[b]? := fun b h1 h2 => (heap_setCell_other wy ⟨gl, _, none⟩ b _ h2).trans (rsy.out b h1)
      have bl3 := bly.out.setCell (p := ⟨gl, ls.length * 2 + 1, none⟩) Hgl.out (.slice (some ⟨gb, 0, none⟩) (m + 1) cb)
      generalize wy.setCell ⟨gl, ls.length * 2 + 1, none⟩ (.slice (some ⟨gb, 0, none⟩) (m + 1) cb) = wz at *
      go_wp2
      go_end0
      exact ⟨rfl, _, put_end H.out Hx.out Hev.out Hv.out Hm.out Hb.out Hgrow.out Hat.out rs3 own3 lv3, bl3, ((Fr.of_below (Nat.zero_le _) HBW.out).kept).trans (put_kept H.out Hx.out Hv.out Hb.out Hgrow.out Hat.out rs3)⟩
    · intro K hK
      try simp only [putAll, Act.put, List.setIfInBounds_toArray, List.set_cons_zero, List.set_cons_succ]
      go_simp
      have hK' := hK.out
      apply hK'
      clear hK hK'
      have own2 := own_move (w' := w2.setCell ⟨gl, ls.length * 2 + 1, none⟩ (.slice (some ⟨gb, 0, none⟩) (m + 1) cb)) Hown2.out fun k hk => heap_setCell_other w2 ⟨gl, _, none⟩ k _ (by rintro rfl; simp [Value.ownBlock] at hk; exact Hne.out hk)
      have lvy := Hset.out _ Hl2.out
      have rsy : ∀ b, b ≠ gl → (w2.setCell ⟨gl, ls.length * 2 + 1, none⟩ (.slice (some ⟨gb, 0, none⟩) (m + 1) cb)).heap[b]? = w2.heap[b]? := fun b hb => heap_setCell_other w2 ⟨gl, _, none⟩ b _ hb
      have bly := Hbl.out.setCell (p := ⟨gl, ls.length * 2 + 1, none⟩) Hgl.out (.slice (some ⟨gb, 0, none⟩) (m + 1) cb)
      generalize w2.setCell ⟨gl, ls.length * 2 + 1, none⟩ (.slice (some ⟨gb, 0, none⟩) (m + 1) cb) = wy at *
      have z0 := own2.cellAt (m * 4) (by omega); have z1 := own2.cellAt (m * 4 + 1) (by omega); have z2 := own2.cellAt (m * 4 + 2) (by omega); have z3 := own2.cellAt (m * 4 + 3) (by omega)
      have hq0 := Hzc.out 0 (by decide); rw [Nat.add_zero] at hq0; rw [hq0] at z0; clear hq0; rw [Hzc.out 1 (by decide)] at z1; rw [Hzc.out 2 (by decide)] at z2; rw [Hzc.out 3 (by decide)] at z3
      simp only [List.getElem?_cons_zero, List.getElem?_cons_succ] at z0 z1 z2 z3
      have f0 := own2.frozenAt (m * 4); have f1 := own2.frozenAt (m * 4 + 1); have f2 := own2.frozenAt (m * 4 + 2); have f3 := own2.frozenAt (m * 4 + 3)
      have own2 := hid own2; have lvy := hid lvy; have rsy := hid rsy; have bly := hid bly
      refine wpAny_one (i := 9) (by kernel_rfl) rfl ?_
      intro K hK
      go_simp
      have hK' := hK.out
      apply hK'
      clear hK hK'
      refine wpAny_done (by kernel_rfl) ?_ _
      have own3 := own_set4 own2.out Hlen.out rfl (.int .i64 (e.kind : Nat)) (.int .i64 (e.at_ : Nat)) (.string e.text) (.slice pe ne ce)
      have lv3 := set4_far lvy.out Hne.out (m * 4) (m * 4 + 1) (m * 4 + 2) (m * 4 + 3) (.int .i64 (e.kind : Nat)) (.int .i64 (e.at_ : Nat)) (.string e.text) (.slice pe ne ce)
      have rs3 : ∀ b, b ≠ gb → b ≠ gl → (((((wy.setCell ⟨gb, m * 4, none⟩ (.int .i64 (e.kind : Nat))).setCell ⟨gb, m * 4 + 1, none⟩ (.int .i64 (e.at_ : Nat))).setCell ⟨gb, m * 4 + 2, none⟩ (.string e.text)).setCell ⟨gb, m * 4 + 3, none⟩ (.slice pe ne ce))).heap[b]? = w2.heap[b]? := fun b h1 h2 => (set4_heap h1).trans (rsy.out b h2)
      have bl3 := (((bly.out.setCell (p := ⟨gb, m * 4, none⟩) Hgb.out (.int .i64 (e.kind : Nat))).setCell (p := ⟨gb, m * 4 + 1, none⟩) Hgb.out (.int .i64 (e.at_ : Nat))).setCell (p := ⟨gb, m * 4 + 2, none⟩) Hgb.out (.string e.text)).setCell (p := ⟨gb, m * 4 + 3, none⟩) Hgb.out (.slice pe ne ce)
      generalize ((((wy.setCell ⟨gb, m * 4, none⟩ (.int .i64 (e.kind : Nat))).setCell ⟨gb, m * 4 + 1, none⟩ (.int .i64 (e.at_ : Nat))).setCell ⟨gb, m * 4 + 2, none⟩ (.string e.text)).setCell ⟨gb, m * 4 + 3, none⟩ (.slice pe ne ce)) = wz at *
      go_wp2
      go_end0
      exact ⟨rfl, _, put_end H.out Hx.out Hev.out Hv.out Hm.out Hb.out Hgrow.out Hat.out rs3 own3 lv3, bl3, ((Fr.of_below (Nat.zero_le _) HBW.out).kept).trans (put_kept H.out Hx.out Hv.out Hb.out Hgrow.out Hat.out rs3)⟩

end Go.Proofs.Ytcpkejonpnmljaa
/- (*sexp.reader).putText; strings.Clone. -/
namespace Go.Proofs.Ytcpkejonpnmljaa
open Go.RowKit

theorem RdAt.c0 {B g gl cap a : Nat} {w : World} {s : ByteArray} {ls : List Lv} (h : RdAt B w g gl cap s a ls) : w.cell? ⟨g, 0, none⟩ = some (.string s) := by rw [cell_of_row w g 0 _ _ (0, 0) h.hd]; rfl
theorem RdAt.c1 {B g gl cap a : Nat} {w : World} {s : ByteArray} {ls : List Lv} (h : RdAt B w g gl cap s a ls) : w.cell? ⟨g, 1, none⟩ = some (.int .i64 (a : Nat)) := by rw [cell_of_row w g 1 _ _ (0, 0) h.hd]; rfl
theorem RdAt.c2 {B g gl cap a : Nat} {w : World} {s : ByteArray} {ls : List Lv} (h : RdAt B w g gl cap s a ls) : w.cell? ⟨g, 2, none⟩ = some (.slice (some ⟨gl, 0, none⟩) ls.length cap) := by rw [cell_of_row w g 2 _ _ (0, 0) h.hd]; rfl
theorem RdAt.f1 {B g gl cap a : Nat} {w : World} {s : ByteArray} {ls : List Lv} (h : RdAt B w g gl cap s a ls) : w.frozen? ⟨g, 1, none⟩ = false := frozen_of_row w g 1 _ _ h.hd
theorem RdAt.f2 {B g gl cap a : Nat} {w : World} {s : ByteArray} {ls : List Lv} (h : RdAt B w g gl cap s a ls) : w.frozen? ⟨g, 2, none⟩ = false := frozen_of_row w g 2 _ _ h.hd
/-- a store into the reader's own block leaves the lists as they are -/
theorem RdAt.rest_far {B g gl cap a : Nat} {w w' : World} {s : ByteArray} {ls : List Lv} (h : RdAt B w g gl cap s a ls) (hr : ∀ b, b ≠ g → w'.heap[b]? = w.heap[b]?) :
    w'.ownsRow B 63 2 (.slice (some ⟨gl, 0, none⟩) ls.length cap) ls.length (lvCells ls) ∧ ∀ x ∈ ls, ∃ vs, OpenAt w' B (SxOut w' ls B) x vs := by
  have hne : ∀ k cs fr, w.heap[k]? = some (.cells cs 30 fr) → k ≠ g := fun k cs fr hk => by
    rintro rfl; rw [h.hd] at hk; simp at hk
  refine ⟨own_move h.lv fun k hk => hr k ?_, fun x hx => ?_⟩
  · obtain ⟨-, cs, hc⟩ := own_type h.lv hk
    rintro rfl; rw [h.hd] at hc; simp at hc
  · obtain ⟨vs, ho⟩ := h.open_ x hx
    refine ⟨vs, ho.move (fun k hk => ?_) fun b hD => ?_⟩
    · obtain ⟨-, cs, hc⟩ := ho.blk hk
      exact hr k (hne k cs _ hc)
    · obtain ⟨-, ⟨cs, fr, hc⟩, -⟩ := id hD
      have := hr b (hne b cs fr hc)
      exact ⟨hD.move this, this⟩
theorem RdAt.move {B g gl cap a : Nat} {w : World} {s : ByteArray} {ls : List Lv} (h : RdAt B w g gl cap s a ls) (a' : Nat) : RdAt B (w.setCell ⟨g, 1, none⟩ (.int .i64 (a' : Nat))) g gl cap s a' ls := by
  have hr := h.rest_far (w' := w.setCell ⟨g, 1, none⟩ (.int .i64 (a' : Nat))) fun b hb => heap_setCell_other w ⟨g, 1, none⟩ b _ hb
  exact ⟨by have := heap_setCell_same w g 1 _ _ (.int .i64 (a' : Nat)) h.hd; simpa using this, hr.1, h.low, hr.2, h.apart⟩
theorem RdAt.drewN {B g gl cap a : Nat} {w : World} {s : ByteArray} {ls : List Lv} (h : RdAt B w g gl cap s a ls) (n : Nat) : RdAt B (w.drewN n) g gl cap s a ls := h.below (below_drewN (Below.refl _ _) n)

set_option maxHeartbeats 800000 in
theorem Clone_any (t : ByteArray) (w : World) (ht : t.size ≤ 281474976710656) : Calls Try.prog 57 #[.string t] w fun e w' => e = .returned (.string t) ∧ Below w.heap.size w w' := by
  have Hc := hid (Try.stringslite_Clone t w ht)
  go_enter Try.func57, Try.ntmps57
  go_wp2_with fail
  refine Hc.out.mono ?_
  rintro e w1 ⟨rfl, hb⟩
  go_wp2_with fail
  go_ret
  exact ⟨rfl, hb⟩

theorem len9 {vs : List Value} (h : vs.length = 9) : ∃ a b c d e f g h i, vs = [a, b, c, d, e, f, g, h, i] := by
  match vs, h with
  | [a, b, c, d, e, f, g, h, i], _ => exact ⟨a, b, c, d, e, f, g, h, i, rfl⟩
def RStep (B : Nat) (w : World) (g gl cap : Nat) (s : ByteArray) (a : Nat) (ls : List Lv) (x : Lv) (e : Ex) (en : Ending) (w' : World) : Prop :=
  en = .returned (.tuple #[.int .i64 0, .int .i64 0]) ∧ ∃ v', RdAt B w' g gl cap s a (ls ++ [⟨x.at_, v', x.l ++ [e]⟩]) ∧ Fr B w w'

set_option maxRecDepth 100000 in
set_option maxHeartbeats 3200000 in
theorem putText_any (B g gl cap : Nat) (s : ByteArray) (a k z : Nat) (t : ByteArray) (ls : List Lv) (x : Lv) (w : World) (h : RdAt B w g gl cap s a (ls ++ [x]))
    (hn : ls.length ≤ 1000) (hm : x.l.length ≤ 1000000) (hB : B ≤ w.heap.size) (ht : t.size ≤ 281474976710656) (ha : a + z ≤ 9223372036854775807) :
    Calls Try.prog 52 #[.pointer (some ⟨g, 0, none⟩), .int .i64 (k : Nat), .string t, .int .i64 (z : Nat)] w (RStep B w g gl cap s (a + z) ls x (.mk k a t [])) := by
  have H := hid h
  have HS : Hid (∀ w', Below w.heap.size w w' → w'.cell? ⟨g, 1, none⟩ = some (.int .i64 (a : Nat))) := fun w' hb => (h.below hb).c1
  clear h
  go_enter Try.func52, Try.ntmps52
  go_upto_region 1 with fail
  refine wp_region_facts (w0 := w) 9 1 [10, 11, 12, 13, 14, 15, 16, 17, 18] [undef, undef, undef, undef, undef, undef, undef, undef, undef]
    (fun i => match i with | 0 => sxEq (.pointer (some ⟨g, 0, none⟩)) | 1 => sxEq (.int .i64 (k : Nat)) | 2 => sxEq (.pointer (some ⟨g, 0, none⟩)) | 3 => sxEq (.pointer (some ⟨g, 0, none⟩)) | 4 => sxEq (.pointer (some ⟨g, 1, none⟩)) | 5 => sxEq (.int .i64 (a : Nat)) | 6 => sxEq (.string t) | 7 => sxEq (.string t) | _ => sxEq (.agg #[.int .i64 (k : Nat), .int .i64 (a : Nat), .string t, .slice none 0 0])) [] (by kernel_rfl) (by kernel_rfl) (by kernel_rfl) (by kernel_rfl) (by decide) rfl (by kernel_rfl) rfl (by simp) ?he1 ?_ ?_ ?_
  case he1 => simp only [putAll, Act.put, List.setIfInBounds_toArray, List.set_cons_zero, List.set_cons_succ]
  · intro i hi; simp at hi
  · intro i o hi ho vs wx hvl hb hdep K hK
    have hvs := len9 hvl
    obtain ⟨s10, s11, s12, s13, s14, s15, s16, s17, s18, rfl⟩ := hvs
    clear hvl
    have hk := HS.out wx hb
    rcases i with _ | _ | _ | _ | _ | _ | _ | _ | _ | i
    all_goals (simp only [List.getElem?_toArray, List.getElem?_cons_zero, List.getElem?_cons_succ, Option.some.injEq] at ho)
    all_goals try (subst ho)
    all_goals try simp only [putAll, Act.put, List.setIfInBounds_toArray, List.set_cons_zero, List.set_cons_succ]
    · go_simp
      have hK' := hK.out
      simp only [putAll, Act.put, List.setIfInBounds_toArray, List.set_cons_zero, List.set_cons_succ] at hK'
      exact hK' _ _ rfl (Below.refl _ _) (by simp)
    · go_simp
      have hK' := hK.out
      simp only [putAll, Act.put, List.setIfInBounds_toArray, List.set_cons_zero, List.set_cons_succ] at hK'
      exact hK' _ _ rfl (Below.refl _ _) (by simp)
    · go_simp
      have hK' := hK.out
      simp only [putAll, Act.put, List.setIfInBounds_toArray, List.set_cons_zero, List.set_cons_succ] at hK'
      exact hK' _ _ rfl (Below.refl _ _) (by simp)
    · have e2 : s12 = _ := hdep ⟨2, .data⟩ (by simp) rfl
      subst e2
      go_simp
      have hK' := hK.out
      simp only [putAll, Act.put, List.setIfInBounds_toArray, List.set_cons_zero, List.set_cons_succ] at hK'
      exact hK' _ _ rfl (Below.refl _ _) (by simp)
    · have e3 : s13 = _ := hdep ⟨3, .data⟩ (by simp) rfl
      subst e3
      go_simp
      have hK' := hK.out
      simp only [putAll, Act.put, List.setIfInBounds_toArray, List.set_cons_zero, List.set_cons_succ] at hK'
      exact hK' _ _ rfl (Below.refl _ _) (by simp)
    · have e4 : s14 = _ := hdep ⟨4, .data⟩ (by simp) rfl
      subst e4
      go_simp
      have hK' := hK.out
      simp only [putAll, Act.put, List.setIfInBounds_toArray, List.set_cons_zero, List.set_cons_succ] at hK'
      exact hK' _ _ rfl (Below.refl _ _) (by simp)
    · go_simp
      have hK' := hK.out
      simp only [putAll, Act.put, List.setIfInBounds_toArray, List.set_cons_zero, List.set_cons_succ] at hK'
      exact hK' _ _ rfl (Below.refl _ _) (by simp)
    · have e6 : s16 = _ := hdep ⟨6, .data⟩ (by simp) rfl
      subst e6
      go_simp
      refine (Clone_any t _ ht).mono ?_
      rintro e wy ⟨rfl, hby⟩
      go_wp2_with fail
      have hK' := hK.out
      simp only [putAll, Act.put, List.setIfInBounds_toArray, List.set_cons_zero, List.set_cons_succ] at hK'
      exact hK' _ _ rfl hby (by simp)
    · have e1 : s11 = _ := hdep ⟨1, .data⟩ (by simp) rfl
      subst e1
      have e5 : s15 = _ := hdep ⟨5, .data⟩ (by simp) rfl
      subst e5
      have e7 : s17 = _ := hdep ⟨7, .data⟩ (by simp) rfl
      subst e7
      go_simp
      have hK' := hK.out
      simp only [putAll, Act.put, List.setIfInBounds_toArray, List.set_cons_zero, List.set_cons_succ] at hK'
      exact hK' _ _ rfl (Below.refl _ _) (by simp)
    · omega
  · intro vs wx hvl hb hf hdist
    have hvs := len9 hvl
    obtain ⟨s10, s11, s12, s13, s14, s15, s16, s17, s18, rfl⟩ := hvs
    have f0 : s10 = .pointer (some ⟨g, 0, none⟩) := hf 0 (by decide)
    have f8 : s18 = .agg #[.int .i64 (k : Nat), .int .i64 (a : Nat), .string t, .slice none 0 0] := hf 8 (by decide)
    subst f0 f8
    clear hf hdist hvl
    have hpx := put_any B g gl cap s a ls x (.mk k a t []) (.slice none 0 0) wx (H.out.below hb) .nil hn hm (by have := hb.size; omega)
    refine wpAny_one (i := 9) (by kernel_rfl) rfl ?_
    intro K hK
    try simp only [putAll, Act.put, List.setIfInBounds_toArray, List.set_cons_zero, List.set_cons_succ]
    go_simp
    refine hpx.mono ?_
    rintro en w2 ⟨rfl, v', h2, hb2⟩
    have H2 := hid h2
    have HB2 := hid ((Fr.of_below hB hb).trans hb2)
    clear hpx h2 hb2 hb
    go_wp2_with fail
    have hK' := hK.out
    apply hK'
    clear hK hK'
    refine wpAny_done (by kernel_rfl) ?_ _
    have c1 := H2.out.c1; have f1 := H2.out.f1
    have hw : IntKind.i64.wrap ((a : Int) + (z : Int)) = ((a + z : Nat) : Int) := by rw [IntWalk.i64_in _ (by omega)]; omega
    have H3 := hid (H2.out.move (a + z)); have HB3 := hid (HB2.out.setRd H2.out 1 (.int .i64 ((a + z : Nat) : Int)))
    clear H2 HB2
    go_wp2_with fail
    go_ret2
    exact ⟨rfl, _, H3.out, HB3.out⟩

end Go.Proofs.Ytcpkejonpnmljaa
/- (*sexp.reader)'s steps: nothing, blank, symbol, numeral, keyword, quoted. -/
namespace Go.Proofs.Ytcpkejonpnmljaa
open Go.RowKit

def RErr (p err : Nat) (w : World) (e : Ending) (w' : World) : Prop := e = .returned (.tuple #[.int .i64 (p : Nat), .int .i64 (err : Nat)]) ∧ ∃ n, w' = w.drewN n
def RMove (B : Nat) (w : World) (g gl cap : Nat) (s : ByteArray) (a : Nat) (ls : List Lv) (e : Ending) (w' : World) : Prop :=
  e = .returned (.tuple #[.int .i64 0, .int .i64 0]) ∧ RdAt B w' g gl cap s a ls ∧ Fr B w w'
theorem rest0_any {B g gl cap a : Nat} {w : World} {s : ByteArray} {ls : List Lv} (h : RdAt B w g gl cap s a ls) (ha : a ≤ s.size) (hs : s.size ≤ 65536) :
    Calls Try.prog 50 #[.pointer (some ⟨g, 0, none⟩), .int .i64 0] w (SxDrawn (.string (s.extract a s.size)) w) := rest_any g s a 0 w h.c0 h.c1 ha (by omega)
theorem rest1_any {B g gl cap a : Nat} {w : World} {s : ByteArray} {ls : List Lv} (h : RdAt B w g gl cap s a ls) (ha : a + 1 ≤ s.size) (hs : s.size ≤ 65536) :
    Calls Try.prog 50 #[.pointer (some ⟨g, 0, none⟩), .int .i64 1] w (SxDrawn (.string (s.extract (a + 1) s.size)) w) := rest_any g s a 1 w h.c0 h.c1 ha (by omega)
theorem ext_size (s : ByteArray) (a : Nat) : (s.extract a s.size).size = s.size - a := by simp
theorem ext_head (t : ByteArray) (n : Nat) (h : 0 < (t.extract n t.size).size) : ((t.extract n t.size)[0]'h) = t.data.toList.getD n 0 := by
  have h2 : n < t.size := by simp at h; omega
  have h3 : n < t.data.size := h2
  show (t.extract n t.size).data[0] = _
  simp only [ByteArray.data_extract, Array.getElem_extract, Nat.add_zero, List.getD_eq_getElem?_getD, Array.getElem?_toList]
  rw [Array.getElem?_eq_getElem h3]; rfl
/-- the sort of the byte behind what may stand in a quoted symbol -/
def sxHead (t : ByteArray) : Nat := sxSort (t.data.toList.getD (sxLead sxQuo t) 0).toNat
theorem drewN_drewN (w : World) (m n : Nat) : (w.drewN m).drewN n = w.drewN (m + n) := by simp [World.drewN, Nat.add_assoc]

set_option maxRecDepth 100000 in
set_option maxHeartbeats 1600000 in
theorem nothing_any (B g gl cap : Nat) (s : ByteArray) (a : Nat) (ls : List Lv) (x : Lv) (w : World) (h : RdAt B w g gl cap s a (ls ++ [x])) (ha : a < s.size) (hs : s.size ≤ 65536) :
    Calls Try.prog 31 #[.pointer (some ⟨g, 0, none⟩)] w (RErr a 2 w) := by
  have c1 := h.c1
  clear h
  go_enter Try.func31, Try.ntmps31
  go_wp2
  go_ret2
  exact ⟨rfl, 0, rfl⟩

set_option maxRecDepth 100000 in
set_option maxHeartbeats 1600000 in
theorem blank_any (B g gl cap : Nat) (s : ByteArray) (a : Nat) (ls : List Lv) (x : Lv) (w : World) (h : RdAt B w g gl cap s a (ls ++ [x])) (ha : a < s.size) (hs : s.size ≤ 65536) (hB : B ≤ w.heap.size) :
    Calls Try.prog 32 #[.pointer (some ⟨g, 0, none⟩)] w (RMove B w g gl cap s (a + 1) (ls ++ [x])) := by
  have c1 := h.c1; have f1 := h.f1
  have hw : IntKind.i64.wrap ((a : Int) + 1) = ((a + 1 : Nat) : Int) := by rw [IntWalk.i64_in _ (by omega)]; omega
  have H := hid (h.move (a + 1)); have HB := hid ((Fr.refl B w).setRd h 1 (.int .i64 ((a + 1 : Nat) : Int)))
  clear h
  go_enter Try.func32, Try.ntmps32
  go_wp2
  go_ret2
  exact ⟨rfl, H.out, HB.out⟩

set_option maxRecDepth 100000 in
set_option maxHeartbeats 1600000 in
theorem symbol_any (B g gl cap : Nat) (s : ByteArray) (a : Nat) (ls : List Lv) (x : Lv) (w : World) (h : RdAt B w g gl cap s a (ls ++ [x])) (ha : a < s.size) (hs : s.size ≤ 65536) (hn : ls.length ≤ 1000) (hm : x.l.length ≤ 1000000) (hB : B ≤ w.heap.size) :
    Calls Try.prog 34 #[.pointer (some ⟨g, 0, none⟩)] w (RStep B w g gl cap s (a + sxLead sxSign (s.extract a s.size)) ls x (.mk 1 a ((s.extract a s.size).extract 0 (sxLead sxSign (s.extract a s.size))) [])) := by
  have hz := ext_size s a
  have hl := sxLead_le sxSign (s.extract a s.size)
  have hr := hid (rest0_any h (Nat.le_of_lt ha) hs)
  have hr2 := fun n => rest0_any (h.drewN n) (Nat.le_of_lt ha) hs
  have Hr2 := hid hr2
  have hld := fun w' => leading_sxSign (s.extract a s.size) w' (by omega)
  have Hld := hid hld
  obtain ⟨t, ht⟩ : ∃ t, t = s.extract a s.size := ⟨_, rfl⟩
  rw [← ht] at hz hl hr hr2 Hr2 Hld ⊢
  clear hr2 hld ht
  obtain ⟨n, hn'⟩ : ∃ n, n = sxLead sxSign t := ⟨_, rfl⟩
  rw [← hn'] at hl Hld ⊢
  have H := hid h
  clear h hn'
  have i0 : (0 : Int) ≤ (n : Int) := by omega
  have i1 : ((n : Int)).toNat = n := by omega
  have i2 : (n : Int) ≤ (t.size : Int) := by omega
  go_enter Try.func34, Try.ntmps34
  go_wp2_with fail
  refine hr.out.mono ?_
  rintro e w1 ⟨rfl, n1, rfl⟩
  go_wp2_with fail
  refine (Hld.out _).mono ?_
  rintro e w1 ⟨rfl, rfl⟩
  go_wp2_with fail
  refine (Hr2.out _).mono ?_
  rintro e w1 ⟨rfl, n2, rfl⟩
  have hp := putText_any B g gl cap s a 1 n (t.extract 0 n) ls x _ (H.out.drewN (n1 + n2)) hn hm (by simp [World.drewN]; omega) (by simp; omega) (by omega)
  rw [show ((1 : Nat) : Int) = 1 from rfl] at hp
  have Hp := hid hp
  clear hp
  go_wp2_with fail
  refine Hp.out.mono ?_
  rintro e w1 ⟨rfl, v', h1, hb⟩
  go_wp2_with fail
  go_ret2
  exact ⟨rfl, v', h1, (Fr.drewN B w (n1 + n2)).trans hb⟩

set_option maxRecDepth 100000 in
set_option maxHeartbeats 1600000 in
theorem numeral_any (B g gl cap : Nat) (s : ByteArray) (a : Nat) (ls : List Lv) (x : Lv) (w : World) (h : RdAt B w g gl cap s a (ls ++ [x])) (ha : a < s.size) (hs : s.size ≤ 65536) (hn : ls.length ≤ 1000) (hm : x.l.length ≤ 1000000) (hB : B ≤ w.heap.size) :
    Calls Try.prog 35 #[.pointer (some ⟨g, 0, none⟩)] w (fun e w' => if sxNum ((s.extract a s.size).extract 0 (sxLead sxSign (s.extract a s.size))) then RStep B w g gl cap s (a + sxLead sxSign (s.extract a s.size)) ls x (.mk 2 a ((s.extract a s.size).extract 0 (sxLead sxSign (s.extract a s.size))) []) e w' else RErr a 2 w e w') := by
  have hz : (s.extract a s.size).size = s.size - (a) := ext_size s _
  have hl := sxLead_le sxSign (s.extract a s.size)
  have hr := hid (rest0_any h (by omega) hs)
  have hr2 := fun n => rest0_any (h.drewN n) (by omega) hs
  have Hr2 := hid hr2
  have hld := fun w' => leading_sxSign (s.extract a s.size) w' (by omega)
  have Hld := hid hld
  obtain ⟨t, ht⟩ : ∃ t, t = s.extract a s.size := ⟨_, rfl⟩
  rw [← ht] at hz hl hr hr2 Hr2 Hld ⊢
  clear hr2 hld ht
  obtain ⟨n, hn'⟩ : ∃ n, n = sxLead sxSign t := ⟨_, rfl⟩
  rw [← hn'] at hl Hld ⊢
  have H := hid h
  have c1 : ∀ n, (w.drewN n).cell? ⟨g, 1, none⟩ = some (.int .i64 (a : Nat)) := fun n => (h.drewN n).c1
  clear h hn'
  have i0 : (0 : Int) ≤ (n : Int) := by omega
  have i1 : ((n : Int)).toNat = n := by omega
  have i2 : (n : Int) ≤ (t.size : Int) := by omega
  have hk := fun w' => isNumeral_any (t.extract 0 n) w' (by simp; omega)
  have Hk := hid hk
  clear hk
  by_cases hnum : sxNum (t.extract 0 n) = true
  · rw [hnum] at Hk
    simp only [if_pos hnum]
    clear hnum
    have cc := c1
    clear c1
    go_enter Try.func35, Try.ntmps35
    go_wp2_with fail
    refine hr.out.mono ?_
    rintro e w1 ⟨rfl, n1, rfl⟩
    go_wp2_with fail
    refine (Hld.out _).mono ?_
    rintro e w1 ⟨rfl, rfl⟩
    go_wp2_with fail
    refine (Hr2.out _).mono ?_
    rintro e w1 ⟨rfl, n2, rfl⟩
    go_wp2_with fail
    refine (Hk.out _).mono ?_
    rintro e w1 ⟨rfl, rfl⟩
    have hp := putText_any B g gl cap s a 2 (n) (t.extract 0 n) ls x _ (H.out.drewN (n1 + n2)) hn hm (by simp [World.drewN]; omega) (by simp; omega) (by omega)
    rw [show ((2 : Nat) : Int) = 2 from rfl] at hp
    have Hp := hid hp
    clear hp
    go_wp2_with fail
    refine Hp.out.mono ?_
    rintro e w1 ⟨rfl, v', h1, hb⟩
    go_wp2_with fail
    go_ret2
    exact ⟨rfl, v', h1, (Fr.drewN B w (n1 + n2)).trans hb⟩
  · have hnum : sxNum (t.extract 0 n) = false := by simpa using hnum
    rw [hnum] at Hk
    simp only [hnum, Bool.false_eq_true, if_false]
    have cc := c1
    clear c1 hnum
    go_enter Try.func35, Try.ntmps35
    go_wp2_with fail
    refine hr.out.mono ?_
    rintro e w1 ⟨rfl, n1, rfl⟩
    go_wp2_with fail
    refine (Hld.out _).mono ?_
    rintro e w1 ⟨rfl, rfl⟩
    go_wp2_with fail
    refine (Hr2.out _).mono ?_
    rintro e w1 ⟨rfl, n2, rfl⟩
    go_wp2_with fail
    refine (Hk.out _).mono ?_
    rintro e w1 ⟨rfl, rfl⟩
    have c1 := cc (n1 + n2)
    clear cc
    go_wp2_with fail
    go_ret2
    exact ⟨rfl, n1 + n2, rfl⟩

set_option maxRecDepth 100000 in
set_option maxHeartbeats 1600000 in
theorem keyword_any (B g gl cap : Nat) (s : ByteArray) (a : Nat) (ls : List Lv) (x : Lv) (w : World) (h : RdAt B w g gl cap s a (ls ++ [x])) (ha : a < s.size) (hs : s.size ≤ 65536) (hn : ls.length ≤ 1000) (hm : x.l.length ≤ 1000000) (hB : B ≤ w.heap.size) :
    Calls Try.prog 37 #[.pointer (some ⟨g, 0, none⟩)] w (fun e w' => if sxLead sxSign (s.extract (a + 1) s.size) = 0 then RErr a 2 w e w' else RStep B w g gl cap s (a + (1 + sxLead sxSign (s.extract (a + 1) s.size))) ls x (.mk 3 a ((s.extract (a + 1) s.size).extract 0 (sxLead sxSign (s.extract (a + 1) s.size))) []) e w') := by
  have hz : (s.extract (a + 1) s.size).size = s.size - ((a + 1)) := ext_size s _
  have hl := sxLead_le sxSign (s.extract (a + 1) s.size)
  have hr := hid (rest1_any h (by omega) hs)
  have hr2 := fun n => rest1_any (h.drewN n) (by omega) hs
  have Hr2 := hid hr2
  have hld := fun w' => leading_sxSign (s.extract (a + 1) s.size) w' (by omega)
  have Hld := hid hld
  obtain ⟨t, ht⟩ : ∃ t, t = s.extract (a + 1) s.size := ⟨_, rfl⟩
  rw [← ht] at hz hl hr hr2 Hr2 Hld ⊢
  clear hr2 hld ht
  obtain ⟨n, hn'⟩ : ∃ n, n = sxLead sxSign t := ⟨_, rfl⟩
  rw [← hn'] at hl Hld ⊢
  have H := hid h
  have c1 : ∀ n, (w.drewN n).cell? ⟨g, 1, none⟩ = some (.int .i64 (a : Nat)) := fun n => (h.drewN n).c1
  clear h hn'
  have i0 : (0 : Int) ≤ (n : Int) := by omega
  have i1 : ((n : Int)).toNat = n := by omega
  have i2 : (n : Int) ≤ (t.size : Int) := by omega
  by_cases hn0 : n = 0
  · subst hn0
    simp only [if_true]
    have cc := c1
    clear c1
    go_enter Try.func37, Try.ntmps37
    go_wp2_with fail
    refine hr.out.mono ?_
    rintro e w1 ⟨rfl, n1, rfl⟩
    go_wp2_with fail
    refine (Hld.out _).mono ?_
    rintro e w1 ⟨rfl, rfl⟩
    go_wp2_with fail
    go_ret2
    exact ⟨rfl, n1, rfl⟩
  · simp only [if_neg hn0]
    have hb0 : ((n : Int) == 0) = false := beq_eq_false_iff_ne.2 (by omega)
    have hw : IntKind.i64.wrap (1 + (n : Int)) = ((1 + n : Nat) : Int) := by rw [IntWalk.i64_in _ (by omega)]; omega
    clear c1 hn0
    go_enter Try.func37, Try.ntmps37
    go_wp2_with fail
    refine hr.out.mono ?_
    rintro e w1 ⟨rfl, n1, rfl⟩
    go_wp2_with fail
    refine (Hld.out _).mono ?_
    rintro e w1 ⟨rfl, rfl⟩
    go_wp2_with fail
    refine (Hr2.out _).mono ?_
    rintro e w1 ⟨rfl, n2, rfl⟩
    have hp := putText_any B g gl cap s a 3 (1 + n) (t.extract 0 n) ls x _ (H.out.drewN (n1 + n2)) hn hm (by simp [World.drewN]; omega) (by simp; omega) (by omega)
    rw [show ((3 : Nat) : Int) = 3 from rfl] at hp
    have Hp := hid hp
    clear hp
    go_wp2_with fail
    refine Hp.out.mono ?_
    rintro e w1 ⟨rfl, v', h1, hb⟩
    go_wp2_with fail
    go_ret2
    exact ⟨rfl, v', h1, (Fr.drewN B w (n1 + n2)).trans hb⟩

end Go.Proofs.Ytcpkejonpnmljaa
/- (*sexp.reader).listBegin. -/
namespace Go.Proofs.Ytcpkejonpnmljaa
open Go.RowKit

/-- a row of one open list without parts, in a block of its own -/
def sxNewL (a B : Nat) : SFact := ⟨fun v w => ∃ g, v = .slice (some ⟨g, 0, none⟩) 1 1 ∧ w.heap[g]? = some (.cells #[.int .i64 (a : Nat), .slice none 0 0] 63 (0, 0)) ∧ B ≤ g,
  fun _ _ _ ⟨g, h1, h2, h3⟩ hb => ⟨g, h1, (hb.block g (lt_of_heap h2)).trans h2, h3⟩⟩
theorem sx_newl_cells {w : World} {g a : Nat} {t : TypeId} (h : w.heap[g]? = some (.cells #[.int .i64 (a : Nat), .slice none 0 0] t (0, 0))) : ∀ j u, ([.int .i64 (a : Nat), .slice none 0 0] : List Value)[j]? = some u → w.cell? ((⟨g, 0, none⟩ : Addr).add j) = some u := by
  intro j u hj
  rw [Go.WideShapes.add_plain, cell_of_row w g _ _ t (0, 0) h, Nat.zero_add]
  simpa using hj
/-- one more open list -/
theorem RdAt.begin {B g gl cap a a0 gb cb : Nat} {w w3 : World} {s : ByteArray} {ls : List Lv} (h : RdAt B w g gl cap s a ls) (hr : ∀ b, b < w.heap.size → b ≠ gl → b ≠ g → w3.heap[b]? = w.heap[b]?)
    (hd : w3.heap[g]? = some (.cells #[.string s, .int .i64 (a : Nat), .slice (some ⟨gb, 0, none⟩) (ls.length + 1) cb] 45 (0, 0)))
    (hlv : w3.ownsRow B 63 2 (.slice (some ⟨gb, 0, none⟩) (ls.length + 1) cb) (ls.length + 1) (lvCells (ls ++ [⟨a0, .slice none 0 0, []⟩]))) :
    RdAt B w3 g gb cb s a (ls ++ [⟨a0, .slice none 0 0, []⟩]) := by
  obtain ⟨lcs, hglh⟩ := (own_type h.lv (k := gl) rfl).2
  have hne : ∀ k cs fr, w.heap[k]? = some (.cells cs 30 fr) → k ≠ gl ∧ k ≠ g := fun k cs fr hk => by
    constructor
    · rintro rfl; rw [hglh] at hk; simp at hk
    · rintro rfl; rw [h.hd] at hk; simp at hk
  have hout : ∀ b, SxOut w ls B b → SxOut w3 (ls ++ [⟨a0, .slice none 0 0, []⟩]) B b ∧ w3.heap[b]? = w.heap[b]? := fun b hb => by
    have hb' := hb
    obtain ⟨h1, ⟨cs, fr, h2⟩, h3⟩ := hb
    have hk : w3.heap[b]? = w.heap[b]? := hr b hb'.lt (hne b cs fr h2).1 (hne b cs fr h2).2
    refine ⟨⟨h1, ⟨cs, fr, hk.trans h2⟩, fun y hy => ?_⟩, hk⟩
    rw [List.mem_append] at hy
    rcases hy with hy | hy
    · exact h3 y hy
    · obtain rfl : y = _ := by simpa using hy
      simp [Value.ownBlock]
  refine ⟨by rw [List.length_append]; exact hd, by rw [List.length_append]; exact hlv, h.low, fun y hy => ?_, ?_⟩
  · rw [List.mem_append] at hy
    rcases hy with hy | hy
    · obtain ⟨us, ho⟩ := h.open_ y hy
      refine ⟨us, ho.move (fun k hk => ?_) hout⟩
      obtain ⟨-, cs, hc⟩ := ho.blk hk
      exact hr k (lt_of_heap hc) (hne k cs _ hc).1 (hne k cs _ hc).2
    · obtain rfl : y = _ := by simpa using hy
      exact ⟨[], rfl, World.ownsRow_nil .., fun i hi => absurd hi (by simp)⟩
  · rw [List.pairwise_append]
    refine ⟨h.apart, List.pairwise_singleton _ _, fun y _ z hz => ?_⟩
    obtain rfl : z = _ := by simpa using hz
    cases hyb : y.v.ownBlock with
    | none => exact .inl rfl
    | some k => exact .inr (by simp [Value.ownBlock])
theorem infoLevel : (Try.prog.info? 63).map (fun i => (i.zero, i.size, i.bytes)) = some (some (.agg #[.int .i64 0, .slice none 0 0]), 2, 32) := by kernel_rfl
theorem len11 {vs : List Value} (h : vs.length = 11) : ∃ a b c d e f g h i j k, vs = [a, b, c, d, e, f, g, h, i, j, k] := by
  match vs, h with
  | [a, b, c, d, e, f, g, h, i, j, k], _ => exact ⟨a, b, c, d, e, f, g, h, i, j, k, rfl⟩

set_option maxRecDepth 100000 in
set_option maxHeartbeats 1600000 in
theorem listBegin_ok (B g gl cap : Nat) (s : ByteArray) (a : Nat) (ls : List Lv) (x : Lv) (w : World) (h : RdAt B w g gl cap s a (ls ++ [x])) (ha : a < s.size) (hs : s.size ≤ 65536) (hn : ls.length ≤ 63) (hB : B ≤ w.heap.size) :
    Calls Try.prog 38 #[.pointer (some ⟨g, 0, none⟩)] w (fun e w' => e = .returned (.tuple #[.int .i64 0, .int .i64 0]) ∧ ∃ gl' cap', RdAt B w' g gl' cap' s (a + 1) (ls ++ [x] ++ [⟨a, .slice none 0 0, []⟩]) ∧ Fr B w w') := by
  have H := hid h
  have HS : Hid (∀ w', Below w.heap.size w w' → w'.cell? ⟨g, 1, none⟩ = some (.int .i64 (a : Nat)) ∧ w'.cell? ⟨g, 2, none⟩ = some (.slice (some ⟨gl, 0, none⟩) (ls.length + 1) cap)) := fun w' hb => by
    have h1 := h.below hb
    have h2 := h1.c2
    rw [List.length_append, List.length_singleton] at h2
    exact ⟨h1.c1, h2⟩
  have hk := HS.out _ (Below.refl _ _)
  obtain ⟨i0, hi, hz0, hz1, hz2⟩ := info_parts infoLevel
  have hlen : (ls.length : Int) ≤ 63 := by omega
  have hgt : decide ((((ls.length + 1 : Nat)) : Int) > 64) = false := by simp; omega
  clear h
  go_split_ands
  go_enter Try.func38, Try.ntmps38
  go_upto_region 3 with fail
  refine wp_region_late (w0 := w) 11 4 [14, 15, 16, 17, 18, 19, 20, 21, 22, 23, 24] [undef, undef, undef, undef, undef, undef, undef, undef, undef, undef, undef]
    (fun i => match i with | 0 => sxEq (.pointer (some ⟨g, 0, none⟩)) | 1 => sxEq (.pointer (some ⟨g, 0, none⟩)) | 2 => sxEq (.pointer (some ⟨g, 0, none⟩)) | 3 => sxEq (.pointer (some ⟨g, 2, none⟩)) | 4 => sxEq (.slice (some ⟨gl, 0, none⟩) (ls.length + 1) cap) | 5 => sxEq (.pointer (some ⟨g, 0, none⟩)) | 6 => sxEq (.pointer (some ⟨g, 0, none⟩)) | 7 => sxEq (.pointer (some ⟨g, 1, none⟩)) | 8 => sxEq (.int .i64 (a : Nat)) | 9 => sxEq (.agg #[.int .i64 (a : Nat), .slice none 0 0]) | _ => sxNewL a w.heap.size) [] (by kernel_rfl) (by kernel_rfl) (by kernel_rfl) 0 (by decide) (by kernel_rfl) (by decide) rfl (by kernel_rfl) rfl (by simp) ?he1 ?_ ?_ ?_ ?_
  case he1 => simp only [putAll, Act.put, List.setIfInBounds_toArray, List.set_cons_zero, List.set_cons_succ]
  · intro i hi; simp at hi
  · intro i o hi ho vs wx hvl hb hdep K hK
    have hvs := len11 hvl
    obtain ⟨s14, s15, s16, s17, s18, s19, s20, s21, s22, s23, s24, rfl⟩ := hvs
    clear hvl
    have hk := HS.out wx hb
    go_split_ands
    rcases i with _ | _ | _ | _ | _ | _ | _ | _ | _ | _ | _ | i
    all_goals (simp only [List.getElem?_toArray, List.getElem?_cons_zero, List.getElem?_cons_succ, Option.some.injEq] at ho)
    all_goals try (subst ho)
    all_goals try simp only [putAll, Act.put, List.setIfInBounds_toArray, List.set_cons_zero, List.set_cons_succ]
    · go_simp
      have hK' := hK.out
      simp only [putAll, Act.put, List.setIfInBounds_toArray, List.set_cons_zero, List.set_cons_succ] at hK'
      exact hK' _ _ rfl (Below.refl _ _) (by simp)
    · go_simp
      have hK' := hK.out
      simp only [putAll, Act.put, List.setIfInBounds_toArray, List.set_cons_zero, List.set_cons_succ] at hK'
      exact hK' _ _ rfl (Below.refl _ _) (by simp)
    · have e1 : s15 = _ := hdep ⟨1, .data⟩ (by simp) rfl
      subst e1
      go_simp
      have hK' := hK.out
      simp only [putAll, Act.put, List.setIfInBounds_toArray, List.set_cons_zero, List.set_cons_succ] at hK'
      exact hK' _ _ rfl (Below.refl _ _) (by simp)
    · have e2 : s16 = _ := hdep ⟨2, .data⟩ (by simp) rfl
      subst e2
      go_simp
      have hK' := hK.out
      simp only [putAll, Act.put, List.setIfInBounds_toArray, List.set_cons_zero, List.set_cons_succ] at hK'
      exact hK' _ _ rfl (Below.refl _ _) (by simp)
    · have e3 : s17 = _ := hdep ⟨3, .data⟩ (by simp) rfl
      subst e3
      go_simp
      have hK' := hK.out
      simp only [putAll, Act.put, List.setIfInBounds_toArray, List.set_cons_zero, List.set_cons_succ] at hK'
      exact hK' _ _ rfl (Below.refl _ _) (by simp)
    · go_simp
      have hK' := hK.out
      simp only [putAll, Act.put, List.setIfInBounds_toArray, List.set_cons_zero, List.set_cons_succ] at hK'
      exact hK' _ _ rfl (Below.refl _ _) (by simp)
    · have e5 : s19 = _ := hdep ⟨5, .data⟩ (by simp) rfl
      subst e5
      go_simp
      have hK' := hK.out
      simp only [putAll, Act.put, List.setIfInBounds_toArray, List.set_cons_zero, List.set_cons_succ] at hK'
      exact hK' _ _ rfl (Below.refl _ _) (by simp)
    · have e6 : s20 = _ := hdep ⟨6, .data⟩ (by simp) rfl
      subst e6
      go_simp
      have hK' := hK.out
      simp only [putAll, Act.put, List.setIfInBounds_toArray, List.set_cons_zero, List.set_cons_succ] at hK'
      exact hK' _ _ rfl (Below.refl _ _) (by simp)
    · have e7 : s21 = _ := hdep ⟨7, .data⟩ (by simp) rfl
      subst e7
      go_simp
      have hK' := hK.out
      simp only [putAll, Act.put, List.setIfInBounds_toArray, List.set_cons_zero, List.set_cons_succ] at hK'
      exact hK' _ _ rfl (Below.refl _ _) (by simp)
    · have e8 : s22 = _ := hdep ⟨8, .data⟩ (by simp) rfl
      subst e8
      go_simp
      have hK' := hK.out
      simp only [putAll, Act.put, List.setIfInBounds_toArray, List.set_cons_zero, List.set_cons_succ] at hK'
      exact hK' _ _ rfl (Below.refl _ _) (by simp)
    · have e9 : s23 = _ := hdep ⟨9, .data⟩ (by simp) rfl
      subst e9
      go_simp
      have hK' := hK.out
      simp only [putAll, Act.put, List.setIfInBounds_toArray, List.set_cons_zero, List.set_cons_succ] at hK'
      exact hK' _ _ ⟨_, rfl, heap_alloc_new _ _, hb.size⟩ (below1 _ _) (by simp)
    · omega
  · intro vs wx hvl hb hf hdist
    have hvs := len11 hvl
    obtain ⟨s14, s15, s16, s17, s18, s19, s20, s21, s22, s23, s24, rfl⟩ := hvs
    have f4 : s18 = .slice (some ⟨gl, 0, none⟩) (ls.length + 1) cap := hf 4 (by decide)
    have f0 : s14 = .pointer (some ⟨g, 0, none⟩) := hf 0 (by decide)
    have f10 : (sxNewL a w.heap.size).P s24 wx := hf 10 (by decide)
    subst f0 f4
    obtain ⟨g6, rfl, hg6, hB6⟩ := f10
    clear hf hdist hvl
    have hx := H.out.below hb
    have hlx := hx.lv
    rw [List.length_append, List.length_singleton] at hlx
    refine wpAny_one (i := 11) (by kernel_rfl) rfl ?_
    intro K hK
    try simp only [putAll, Act.put, List.setIfInBounds_toArray, List.set_cons_zero, List.set_cons_succ]
    rw [if_pos (by rfl)]
    refine sx_step_append (.tmp 18) (.tmp 24) 43 ?ho B 63 i0 _ 2 32 Try.underlying43 hi hz0 hz1 hz2 rfl (by decide) (.slice (some ⟨gl, 0, none⟩) (ls.length + 1) cap) (ls.length + 1) _ ?hs hlx ⟨g6, 0, none⟩ 1 1 [.int .i64 (a : Nat), .slice none 0 0] ?hx rfl ?c1 ?c2 ?c3 ?c4 ?c5 ?_
    case ho => rfl
    case hs => rfl
    case hx => rfl
    case c1 => exact sx_newl_cells hg6
    case c2 => intro u hu; simp at hu; rcases hu with rfl | rfl <;> rfl
    case c3 => unfold maxLen; omega
    case c4 => omega
    case c5 => have := hb.size; omega
    intro v' w2 hown2 hgrow hat
    have hK' := hK.out
    apply hK'
    clear hK hK'
    obtain ⟨gb, cb, rfl, -, -⟩ := hown2.form (by omega)
    have hgl : gl ≠ g := by
      rintro rfl
      obtain ⟨cs, h3⟩ := (own_type hlx (k := gl) rfl).2
      have h4 := hx.hd
      rw [h3] at h4; simp at h4
    have hgw : w2.heap[g]? = some (.cells #[.string s, .int .i64 (a : Nat), .slice (some ⟨gl, 0, none⟩) (ls.length + 1) cap] 45 (0, 0)) := by
      rw [hgrow.block g (lt_of_heap hx.hd) (by simp [Value.ownBlock]; exact fun e => hgl e.symm), hx.hd]; simp
    have c2' : w2.cell? ⟨g, 2, none⟩ = some (.slice (some ⟨gl, 0, none⟩) (ls.length + 1) cap) := by rw [cell_of_row w2 g 2 _ _ (0, 0) hgw]; rfl
    have f2' : w2.frozen? ⟨g, 2, none⟩ = false := frozen_of_row w2 g 2 _ _ hgw
    have hgb : gb ≠ g := by
      rintro rfl
      obtain ⟨cs, h3⟩ := (own_type hown2 (k := gb) rfl).2
      rw [h3] at hgw; simp at hgw
    have hset := heap_setCell_same w2 g 2 _ _ (.slice (some ⟨gb, 0, none⟩) (ls.length + 1 + 1) cb) hgw
    have hrs : ∀ b, b < wx.heap.size → b ≠ gl → b ≠ g → (w2.setCell ⟨g, 2, none⟩ (.slice (some ⟨gb, 0, none⟩) (ls.length + 1 + 1) cb)).heap[b]? = wx.heap[b]? := fun b h1 h2 h3 =>
      (heap_setCell_other w2 ⟨g, 2, none⟩ b _ h3).trans (hgrow.block b h1 (by simp [Value.ownBlock]; exact fun e => h2 e))
    have hlv3 := own_move (w' := w2.setCell ⟨g, 2, none⟩ (.slice (some ⟨gb, 0, none⟩) (ls.length + 1 + 1) cb)) hown2 fun k hk => heap_setCell_other w2 ⟨g, 2, none⟩ k _ (by
      obtain rfl : gb = k := by simpa [Value.ownBlock] using hk
      exact hgb)
    have H3 := hx.begin (gb := gb) (cb := cb) (a0 := a) hrs (by simpa using hset) (by rw [lvCells_snoc]; simpa using hlv3)
    have HB3 : Below B w (w2.setCell ⟨g, 2, none⟩ (.slice (some ⟨gb, 0, none⟩) (ls.length + 1 + 1) cb)) := ((hb.mono (B' := B) hB).grown hgrow (by have := hb.size; omega) (fun k hk => (own_type hlx hk).1)).setCell (p := ⟨g, 2, none⟩) hx.low _
    have HF3 : Fr B w (w2.setCell ⟨g, 2, none⟩ (.slice (some ⟨gb, 0, none⟩) (ls.length + 1 + 1) cb)) := ⟨HB3, ((Fr.of_below (Nat.zero_le _) hb).kept).trans fun b cs t fr hbk h1 h2 h3 => hrs b (lt_of_heap hbk) (by
      rintro rfl
      obtain ⟨cs', hc⟩ := (own_type hlx (k := b) rfl).2
      rw [hbk] at hc
      injection hc with hc
      injection hc with _ h4
      exact h2 h4) (by
      rintro rfl
      have hc := hx.hd
      rw [hbk] at hc
      injection hc with hc
      injection hc with _ h4
      exact h3 h4)⟩
    have H3 := hid H3; have HB3 := hid HF3
    clear HF3
    clear hset hrs hlv3 hown2 hgrow hat hlx hx hg6 hb
    refine wpAny_one (i := 12) (by kernel_rfl) rfl ?_
    intro K hK
    go_simp
    have hK' := hK.out
    apply hK'
    clear hK hK'
    refine wpAny_one (i := 13) (by kernel_rfl) rfl ?_
    intro K hK
    go_simp
    have hK' := hK.out
    apply hK'
    clear hK hK'
    refine wpAny_one (i := 14) (by kernel_rfl) rfl ?_
    intro K hK
    go_simp
    have hK' := hK.out
    apply hK'
    clear hK hK' c2' f2'
    generalize w2.setCell ⟨g, 2, none⟩ (.slice (some ⟨gb, 0, none⟩) (ls.length + 1 + 1) cb) = w3 at *
    have c1 := H3.out.c1; have f1 := H3.out.f1
    have hw : IntKind.i64.wrap ((a : Int) + 1) = ((a + 1 : Nat) : Int) := by rw [IntWalk.i64_in _ (by omega)]; omega
    have H4 := hid (H3.out.move (a + 1)); have HB4 := hid (HB3.out.setRd H3.out 1 (.int .i64 ((a + 1 : Nat) : Int)))
    clear H3 HB3
    refine wpAny_done (by kernel_rfl) ?_ _
    go_wp2_with fail
    go_ret2
    exact ⟨rfl, _, _, H4.out, HB4.out⟩
  · intro vs wx hvl hb hf hdist
    have hvs := len11 hvl
    obtain ⟨s14, s15, s16, s17, s18, s19, s20, s21, s22, s23, s24, rfl⟩ := hvs
    have f4 : s18 = .slice (some ⟨gl, 0, none⟩) (ls.length + 1) cap := hf 4 (by decide) (by decide)
    have f10 : (sxNewL a w.heap.size).P s24 wx := hf 10 (by decide) (by decide)
    subst f4
    obtain ⟨g6, rfl, hg6, hB6⟩ := f10
    clear hf hdist hvl
    have hx := H.out.below hb
    have hlx := hx.lv
    rw [List.length_append, List.length_singleton] at hlx
    try simp only [putAll, Act.put, List.setIfInBounds_toArray, List.set_cons_zero, List.set_cons_succ]
    refine wpAny_take (i := 0) (oi := _) (v := .pointer (some ⟨g, 0, none⟩)) rfl (by kernel_rfl) (by kernel_rfl) (by kernel_rfl) (fun _ _ _ h => h) (Or.inl ⟨by rfl, ?_⟩) ?_
    · intro w; go_simp
    show wpAny _ _ _ _ _ _ (Act.put _ (some 14) _) _
    try simp only [putAll, Act.put, List.setIfInBounds_toArray, List.set_cons_zero, List.set_cons_succ]
    refine wpAny_one (i := 11) (by kernel_rfl) rfl ?_
    intro K hK
    try simp only [putAll, Act.put, List.setIfInBounds_toArray, List.set_cons_zero, List.set_cons_succ]
    rw [if_pos (by rfl)]
    refine sx_step_append (.tmp 18) (.tmp 24) 43 ?ho B 63 i0 _ 2 32 Try.underlying43 hi hz0 hz1 hz2 rfl (by decide) (.slice (some ⟨gl, 0, none⟩) (ls.length + 1) cap) (ls.length + 1) _ ?hs hlx ⟨g6, 0, none⟩ 1 1 [.int .i64 (a : Nat), .slice none 0 0] ?hx rfl ?c1 ?c2 ?c3 ?c4 ?c5 ?_
    case ho => rfl
    case hs => rfl
    case hx => rfl
    case c1 => exact sx_newl_cells hg6
    case c2 => intro u hu; simp at hu; rcases hu with rfl | rfl <;> rfl
    case c3 => unfold maxLen; omega
    case c4 => omega
    case c5 => have := hb.size; omega
    intro v' w2 hown2 hgrow hat
    have hK' := hK.out
    apply hK'
    clear hK hK'
    obtain ⟨gb, cb, rfl, -, -⟩ := hown2.form (by omega)
    have hgl : gl ≠ g := by
      rintro rfl
      obtain ⟨cs, h3⟩ := (own_type hlx (k := gl) rfl).2
      have h4 := hx.hd
      rw [h3] at h4; simp at h4
    have hgw : w2.heap[g]? = some (.cells #[.string s, .int .i64 (a : Nat), .slice (some ⟨gl, 0, none⟩) (ls.length + 1) cap] 45 (0, 0)) := by
      rw [hgrow.block g (lt_of_heap hx.hd) (by simp [Value.ownBlock]; exact fun e => hgl e.symm), hx.hd]; simp
    have c2' : w2.cell? ⟨g, 2, none⟩ = some (.slice (some ⟨gl, 0, none⟩) (ls.length + 1) cap) := by rw [cell_of_row w2 g 2 _ _ (0, 0) hgw]; rfl
    have f2' : w2.frozen? ⟨g, 2, none⟩ = false := frozen_of_row w2 g 2 _ _ hgw
    have hgb : gb ≠ g := by
      rintro rfl
      obtain ⟨cs, h3⟩ := (own_type hown2 (k := gb) rfl).2
      rw [h3] at hgw; simp at hgw
    have hset := heap_setCell_same w2 g 2 _ _ (.slice (some ⟨gb, 0, none⟩) (ls.length + 1 + 1) cb) hgw
    have hrs : ∀ b, b < wx.heap.size → b ≠ gl → b ≠ g → (w2.setCell ⟨g, 2, none⟩ (.slice (some ⟨gb, 0, none⟩) (ls.length + 1 + 1) cb)).heap[b]? = wx.heap[b]? := fun b h1 h2 h3 =>
      (heap_setCell_other w2 ⟨g, 2, none⟩ b _ h3).trans (hgrow.block b h1 (by simp [Value.ownBlock]; exact fun e => h2 e))
    have hlv3 := own_move (w' := w2.setCell ⟨g, 2, none⟩ (.slice (some ⟨gb, 0, none⟩) (ls.length + 1 + 1) cb)) hown2 fun k hk => heap_setCell_other w2 ⟨g, 2, none⟩ k _ (by
      obtain rfl : gb = k := by simpa [Value.ownBlock] using hk
      exact hgb)
    have H3 := hx.begin (gb := gb) (cb := cb) (a0 := a) hrs (by simpa using hset) (by rw [lvCells_snoc]; simpa using hlv3)
    have HB3 : Below B w (w2.setCell ⟨g, 2, none⟩ (.slice (some ⟨gb, 0, none⟩) (ls.length + 1 + 1) cb)) := ((hb.mono (B' := B) hB).grown hgrow (by have := hb.size; omega) (fun k hk => (own_type hlx hk).1)).setCell (p := ⟨g, 2, none⟩) hx.low _
    have HF3 : Fr B w (w2.setCell ⟨g, 2, none⟩ (.slice (some ⟨gb, 0, none⟩) (ls.length + 1 + 1) cb)) := ⟨HB3, ((Fr.of_below (Nat.zero_le _) hb).kept).trans fun b cs t fr hbk h1 h2 h3 => hrs b (lt_of_heap hbk) (by
      rintro rfl
      obtain ⟨cs', hc⟩ := (own_type hlx (k := b) rfl).2
      rw [hbk] at hc
      injection hc with hc
      injection hc with _ h4
      exact h2 h4) (by
      rintro rfl
      have hc := hx.hd
      rw [hbk] at hc
      injection hc with hc
      injection hc with _ h4
      exact h3 h4)⟩
    have H3 := hid H3; have HB3 := hid HF3
    clear HF3
    clear hset hrs hlv3 hown2 hgrow hat hlx hx hg6 hb
    refine wpAny_one (i := 12) (by kernel_rfl) rfl ?_
    intro K hK
    go_simp
    have hK' := hK.out
    apply hK'
    clear hK hK'
    refine wpAny_one (i := 13) (by kernel_rfl) rfl ?_
    intro K hK
    go_simp
    have hK' := hK.out
    apply hK'
    clear hK hK'
    refine wpAny_one (i := 14) (by kernel_rfl) rfl ?_
    intro K hK
    go_simp
    have hK' := hK.out
    apply hK'
    clear hK hK' c2' f2'
    generalize w2.setCell ⟨g, 2, none⟩ (.slice (some ⟨gb, 0, none⟩) (ls.length + 1 + 1) cb) = w3 at *
    have c1 := H3.out.c1; have f1 := H3.out.f1
    have hw : IntKind.i64.wrap ((a : Int) + 1) = ((a + 1 : Nat) : Int) := by rw [IntWalk.i64_in _ (by omega)]; omega
    have H4 := hid (H3.out.move (a + 1)); have HB4 := hid (HB3.out.setRd H3.out 1 (.int .i64 ((a + 1 : Nat) : Int)))
    clear H3 HB3
    refine wpAny_done (by kernel_rfl) ?_ _
    go_wp2_with fail
    go_ret2
    exact ⟨rfl, _, _, H4.out, HB4.out⟩

end Go.Proofs.Ytcpkejonpnmljaa
