/- Texts put together: PlRef, PlRef2, PlRef3, PlRef4, FromOwn, RefOwn, PlSame, PlRef5, PlRef6, PlRef7, PlRef8, PlChecks. -/
import Derived.Test.YtmdkfpidohcafaaDoorPoolNilCardM3
import Derived.Deep.DeepCutAuto
import Derived.Maps.AppendAt
import Derived.Deep.RegionHeld3
/- elenchusref04.Sort, counts: over rows that may be. -/
namespace Go.Proofs.YtmdkfpidohcafaaDoor
open Go.RowKit Big Go.WideMaps

/-- rows of which each term was made over those ahead -/
def PoGood (p : Po) : Prop := p.sorts.length = p.terms.length ∧ p.terms.length ≤ 4096 ∧ p.syms.length ≤ 256 ∧ ∀ k (h : k < p.terms.length), (p.terms[k].op = 4 → ∃ j : Nat, p.terms[k].sym = (j : Nat) ∧ j < p.syms.length) ∧ (p.terms[k].op = 9 → ∃ (h1 : 1 < p.terms[k].args.length) (j : Nat), p.terms[k].args[1] = (j : Nat) ∧ j < k) ∧
  1 ≤ p.terms[k].op ∧ p.terms[k].op ≤ 13 ∧ plSortAt p (k : Nat) = plSort p p.terms[k]
/-- rows that are handed in -/
def RwIn (w : World) (v : Value) (s : List Sy) (t : List Tm) : Prop := ∃ a b, v = .agg #[a, b] ∧ SyIn w a s ∧ TmsIn w b t
theorem RwIn.below {w w' : World} {v : Value} {s : List Sy} {t : List Tm} (h : RwIn w v s t) (hb : Below w.heap.size w w') : RwIn w' v s t := by
  obtain ⟨a, b, e, h1, h2⟩ := h
  exact ⟨a, b, e, h1.below hb, h2.below hb⟩
theorem plSort_three (p : Po) (t : Tm) (h : t.op = 3 ∨ t.op = 12 ∨ t.op = 13) : plSort p t = 2 := by
  unfold plSort
  rcases h with h | h | h <;> rw [if_neg (by omega), if_neg (by omega), h] <;> rfl
theorem plSort_bool (p : Po) (t : Tm) (h1 : 1 ≤ t.op) (h2 : t.op ≤ 13) (h3 : t.op ≠ 3) (h4 : t.op ≠ 4) (h9 : t.op ≠ 9) (h12 : t.op ≠ 12) (h13 : t.op ≠ 13) : plSort p t = 1 := by
  unfold plSort
  rw [if_neg h4, if_neg h9]
  have : t.op = 1 ∨ t.op = 2 ∨ t.op = 5 ∨ t.op = 6 ∨ t.op = 7 ∨ t.op = 8 ∨ t.op = 10 ∨ t.op = 11 := by omega
  rcases this with h | h | h | h | h | h | h | h <;> rw [h] <;> rfl
set_option maxRecDepth 100000 in
set_option maxHeartbeats 12800000 in
theorem RSort_any (p : Po) (hp : PoGood p) : ∀ (k : Nat) (v : Value) (w : World), RwIn w v p.syms p.terms → k < p.terms.length → Calls Tryd.prog 17 #[v, .int .i64 (k : Nat)] w (RNum .i64 (plSortAt p (k : Nat)) w) := by
  intro k
  induction k using Nat.strongRecOn with
  | _ k ih =>
  intro v w hr hk
  have Hr := hid hr
  obtain ⟨va, vb, rfl, hs, ht⟩ := hr
  obtain ⟨h4, h9, hlo, hhi, hso⟩ := hp.2.2.2 k hk
  obtain ⟨pa, ca, rfl, a1, a2, a3, a4⟩ := hs
  obtain ⟨pb, cb, rfl, b1, b2, b3, b4⟩ := ht
  obtain ⟨bb, off, rfl, j1, j2⟩ := b4 (by omega)
  obtain ⟨c0, c1, c2, c3, c4, m0, m1, m2, m3, m4, hraw⟩ := j2 k hk
  have hkl : (k : Int) < (p.terms.length : Nat) := by omega
  rw [hso]
  obtain ⟨x, hx⟩ : ∃ x, x = p.terms[k] := ⟨_, rfl⟩
  rw [← hx] at hraw h4 h9 hlo hhi ⊢
  obtain ⟨pc, cc, b, pm, nm, cm, ea, hargs, -⟩ := hraw
  simp only [Value.agg.injEq, Array.mk.injEq, List.cons.injEq, and_true] at ea
  obtain ⟨rfl, rfl, rfl, rfl, rfl⟩ := ea
  have Hx := hid hx
  clear hx
  obtain ⟨op, ar, nu, sy⟩ := x
  dsimp only at *
  have bx := below1 w (.cells #[.slice pa p.syms.length ca, .slice (some ⟨bb, off, none⟩) p.terms.length cb] 27)
  have hx0 := heap_alloc_new w (.cells #[.slice pa p.syms.length ca, .slice (some ⟨bb, off, none⟩) p.terms.length cb] 27)
  have q := two_cells hx0
  obtain ⟨q0, q1, -, -⟩ := q
  have hz := size_alloc w (.cells #[.slice pa p.syms.length ca, .slice (some ⟨bb, off, none⟩) p.terms.length cb] 27)
  have m0 := (bx.cell (p := ⟨bb, off + k * 5, none⟩) j1).trans m0
  have m1 := (bx.cell (p := ⟨bb, off + k * 5 + 1, none⟩) j1).trans m1
  have m2 := (bx.cell (p := ⟨bb, off + k * 5 + 2, none⟩) j1).trans m2
  have m3 := (bx.cell (p := ⟨bb, off + k * 5 + 3, none⟩) j1).trans m3
  have m4 := (bx.cell (p := ⟨bb, off + k * 5 + 4, none⟩) j1).trans m4
  have by_ := below1 (w.alloc (.cells #[.slice pa p.syms.length ca, .slice (some ⟨bb, off, none⟩) p.terms.length cb] 27)) (.cells #[.int .i64 op, .slice pc ar.length cc, .bool b, .slice pm nm cm, .int .i64 sy] 39)
  have hy0 := heap_alloc_new (w.alloc (.cells #[.slice pa p.syms.length ca, .slice (some ⟨bb, off, none⟩) p.terms.length cb] 27)) (.cells #[.int .i64 op, .slice pc ar.length cc, .bool b, .slice pm nm cm, .int .i64 sy] 39)
  rw [hz] at hy0
  have hx1 := (by_.block w.heap.size (by omega)).trans hx0
  have bw := bel_go by_ bx
  have qy := five_cells hy0
  have q1' := two_cells hx1
  unfold maxLen at b2 a2
  clear hso j2 b4 hx0 hy0 hx1 b3 a3
  by_cases c3 : op = 3 ∨ op = 12 ∨ op = 13
  · have hsr := plSort_three p ⟨op, ar, nu, sy⟩ c3
    rw [hsr]
    obtain ⟨y0, -, -, -, -⟩ := qy
    clear hsr a4 h4 h9 hargs q1' Hr ih
    clear hlo hhi
    rcases c3 with rfl | rfl | rfl
    all_goals
      go_enter Tryd.func17, Tryd.ntmps17
      go_wp2
      go_ret
      exact ⟨rfl, bw⟩
  · by_cases c4 : op = 4
    · obtain ⟨j, hj, hjl⟩ := h4 c4
      obtain ⟨ba, offa, rfl, k1, k2⟩ := a4 (by omega)
      have n2 := (k2 j hjl).2.2
      have hjl' : (j : Int) < (p.syms.length : Nat) := by omega
      have n2 := (bw.cell (p := ⟨ba, offa + j * 3 + 2, none⟩) k1).trans n2
      have hsr : plSort p ⟨op, ar, nu, sy⟩ = p.syms[j].sort := by
        unfold plSort plSymAt
        rw [if_pos c4, hj]
        simp [hjl]
      rw [hsr]
      clear hsr h4 h9 c3 hlo hhi Hx
      subst c4 hj
      obtain ⟨y0, -, -, -, y4⟩ := qy
      obtain ⟨z0, z1, -, -⟩ := q1'
      clear a4 k2 hargs Hr ih
      generalize p.syms[j].sort = so at *
      go_enter Tryd.func17, Tryd.ntmps17
      go_wp2
      go_ret
      exact ⟨rfl, bw⟩
    · by_cases c9 : op = 9
      · obtain ⟨hl1, j, hj, hjk⟩ := h9 c9
        obtain ⟨pc', cc', e, i1, i2, i3, i4⟩ := hargs
        cases e
        obtain ⟨bc, offc, rfl, o1, o2⟩ := i4 (by omega)
        have n1 := o2 1 hl1
        rw [hj] at n1
        have n1 := (bw.cell (p := ⟨bc, offc + 1, none⟩) o1).trans n1
        have hl1' : (1 : Int) < (ar.length : Nat) := by omega
        have hih := fun W (hW : Below w.heap.size w W) => ih j hjk _ W (Hr.out.below hW) (by omega)
        have Hih := hid hih
        have hsr : plSort p ⟨op, ar, nu, sy⟩ = plSortAt p (j : Nat) := by
          unfold plSort
          rw [if_neg c4, if_pos c9, List.getElem?_eq_getElem hl1, hj]
          rfl
        rw [hsr]
        clear hsr h4 h9 c3 c4 hlo hhi Hx
        subst c9
        obtain ⟨y0, y1, -, -, -⟩ := qy
        obtain ⟨z0, z1, -, -⟩ := q1'
        clear o2 i4 Hr ih hj hih a4 i3
        go_enter Tryd.func17, Tryd.ntmps17
        go_upto_region 10 with fail
        generalize hW : ((w.alloc (.cells #[.slice pa p.syms.length ca, .slice (some ⟨bb, off, none⟩) p.terms.length cb] 27)).alloc (.cells #[.int .i64 9, .slice (some ⟨bc, offc, none⟩) ar.length cc, .bool b, .slice pm nm cm, .int .i64 sy] 39)) = W2 at *
        clear hW
        have hz2 := by_.size
        have HS : Hid (∀ w', Below W2.heap.size W2 w' → w'.cell? ⟨w.heap.size, 0, none⟩ = some (.slice pa p.syms.length ca) ∧ w'.cell? ⟨w.heap.size, 1, none⟩ = some (.slice (some ⟨bb, off, none⟩) p.terms.length cb) ∧ w'.cell? ⟨w.heap.size + 1, 1, none⟩ = some (.slice (some ⟨bc, offc, none⟩) ar.length cc) ∧ w'.cell? ⟨bc, offc + 1, none⟩ = some (.int .i64 (j : Nat))) := hid fun w' hb =>
          ⟨(hb.cell (p := ⟨w.heap.size, 0, none⟩) (World.block_lt_of_cell? _ _ z0)).trans z0, (hb.cell (p := ⟨w.heap.size, 1, none⟩) (World.block_lt_of_cell? _ _ z1)).trans z1, (hb.cell (p := ⟨w.heap.size + 1, 1, none⟩) (World.block_lt_of_cell? _ _ y1)).trans y1, (hb.cell (p := ⟨bc, offc + 1, none⟩) (World.block_lt_of_cell? _ _ n1)).trans n1⟩
        clear z0 z1 y0 y1 n1 m0 m1 m2 m3 m4 q0 q1
        refine wp_region_facts (w0 := W2) 7 0 [28, 29, 30, 31, 32, 33, 4] [undef, undef, undef, undef, undef, undef, .int .i64 0]
          (fun i => match i with | 0 => eqD (.agg #[.slice pa p.syms.length ca, .slice (some ⟨bb, off, none⟩) p.terms.length cb]) | 1 => eqD (.pointer (some ⟨w.heap.size + 1, 1, none⟩)) | 2 => eqD (.slice (some ⟨bc, offc, none⟩) ar.length cc) | 3 => eqD (.pointer (some ⟨bc, offc + 1, none⟩)) | 4 => eqD (.int .i64 (j : Nat)) | 5 => eqD (.int .i64 (plSortAt p (j : Nat))) | _ => eqD (.int .i64 (plSortAt p (j : Nat)))) [] (by kernel_rfl) (by kernel_rfl) (by kernel_rfl) (by kernel_rfl) (by decide) rfl (by kernel_rfl) rfl (by simp) ?he1 ?_ ?_ ?_
        case he1 => simp only [putAll, Act.put, List.setIfInBounds_toArray, List.set_cons_zero, List.set_cons_succ]
        · intro i hi; simp at hi
        · intro i o hi ho vs wx hvl hb hdep K hK
          have hvs := vlen7 hvl
          obtain ⟨s28, s29, s30, s31, s32, s33, s4, rfl⟩ := hvs
          clear hvl
          have hk := HS.out wx hb
          go_split_ands
          rcases i with _ | _ | _ | _ | _ | _ | _ | i
          all_goals (simp only [List.getElem?_toArray, List.getElem?_cons_zero, List.getElem?_cons_succ, Option.some.injEq] at ho)
          all_goals try (subst ho)
          all_goals try simp only [putAll, Act.put, List.setIfInBounds_toArray, List.set_cons_zero, List.set_cons_succ]
          · go_simp
            have hK' := hK.out
            simp only [putAll, Act.put, List.setIfInBounds_toArray, List.set_cons_zero, List.set_cons_succ] at hK'
            exact hK' _ _ rfl (Below.refl _ _) (by simp)
          · go_simp
            have hK' := hK.out
            simp only [putAll, Act.put, List.setIfInBounds_toArray, List.set_cons_zero, List.set_cons_succ] at hK'
            exact hK' _ _ rfl (Below.refl _ _) (by simp)
          · have e1 : s29 = _ := hdep ⟨1, .data⟩ (by simp) rfl
            have e1 := e1.symm
            subst e1
            go_simp
            have hK' := hK.out
            simp only [putAll, Act.put, List.setIfInBounds_toArray, List.set_cons_zero, List.set_cons_succ] at hK'
            exact hK' _ _ rfl (Below.refl _ _) (by simp)
          · have e2 : s30 = _ := hdep ⟨2, .data⟩ (by simp) rfl
            have e2 := e2.symm
            subst e2
            go_simp
            have hK' := hK.out
            simp only [putAll, Act.put, List.setIfInBounds_toArray, List.set_cons_zero, List.set_cons_succ] at hK'
            exact hK' _ _ rfl (Below.refl _ _) (by simp)
          · have e3 : s31 = _ := hdep ⟨3, .data⟩ (by simp) rfl
            have e3 := e3.symm
            subst e3
            go_simp
            have hK' := hK.out
            simp only [putAll, Act.put, List.setIfInBounds_toArray, List.set_cons_zero, List.set_cons_succ] at hK'
            exact hK' _ _ rfl (Below.refl _ _) (by simp)
          · have e0 : s28 = _ := hdep ⟨0, .data⟩ (by simp) rfl
            have e0 := e0.symm
            subst e0
            have e4 : s32 = _ := hdep ⟨4, .data⟩ (by simp) rfl
            have e4 := e4.symm
            subst e4
            go_simp
            go_simp
            refine (Hih.out _ (bel_go hb bw)).mono ?_
            rintro e wy ⟨rfl, hby⟩
            go_wp2_with fail
            have hK' := hK.out
            simp only [putAll, Act.put, List.setIfInBounds_toArray, List.set_cons_zero, List.set_cons_succ] at hK'
            exact hK' _ _ rfl hby (by simp)
          · have e5 : s33 = _ := hdep ⟨5, .data⟩ (by simp) rfl
            have e5 := e5.symm
            subst e5
            go_simp
            have hK' := hK.out
            simp only [putAll, Act.put, List.setIfInBounds_toArray, List.set_cons_zero, List.set_cons_succ] at hK'
            exact hK' _ _ rfl (Below.refl _ _) (by simp)
          · omega
        · intro vs wx hvl hb hf hdist
          have hvs := vlen7 hvl
          obtain ⟨s28, s29, s30, s31, s32, s33, s4, rfl⟩ := hvs
          have f6 : s4 = .int .i64 (plSortAt p (j : Nat)) := hf 6 (by decide)
          subst f6
          clear hf hdist hvl
          refine wpAny_done (by kernel_rfl) ?_ _
          simp only [putAll, Act.put, List.setIfInBounds_toArray, List.set_cons_zero, List.set_cons_succ]
          have hfin := bel_go hb bw
          go_wp2
          go_ret
          exact ⟨rfl, hfin⟩
      · have hsr := plSort_bool p ⟨op, ar, nu, sy⟩ hlo hhi (by show op ≠ 3; omega) c4 c9 (by show op ≠ 12; omega) (by show op ≠ 13; omega)
        rw [hsr]
        obtain ⟨y0, -, -, -, -⟩ := qy
        clear hsr a4 h4 h9 hargs q1' Hr ih
        have d3 : (op == 3) = false := by simp; omega
        have d12 : (op == 12) = false := by simp; omega
        have d13 : (op == 13) = false := by simp; omega
        have d4 : (op == 4) = false := by simp; omega
        have d9 : (op == 9) = false := by simp; omega
        clear c3 c4 c9
        go_enter Tryd.func17, Tryd.ntmps17
        go_wp2
        go_ret
        exact ⟨rfl, bw⟩
end Go.Proofs.YtmdkfpidohcafaaDoor
/- elenchusref04.counts. -/
namespace Go.Proofs.YtmdkfpidohcafaaDoor
open Go.RowKit Big Go.WideMaps

def plLeast (p : Po) (t : Tm) : Int := if t.op = 4 then (plSymAt p t.sym).arity else (plRu t.op).least
def plMost (p : Po) (t : Tm) : Int := if t.op = 4 then (plSymAt p t.sym).arity else (plRu t.op).most
set_option maxRecDepth 100000 in
set_option maxHeartbeats 12800000 in
theorem counts_any (p : Po) (t : Tm) (v vt : Value) (w : World) (hr : RwIn w v p.syms p.terms) (ht : TmRaw w vt t) (hlo : 1 ≤ t.op) (hhi : t.op ≤ 13) (hs : plNoSym p t = false) :
    Calls Tryd.prog 56 #[v, vt] w (RTwo (plLeast p t) (plMost p t) w) := by
  obtain ⟨va, vb, rfl, hs', ht'⟩ := hr
  obtain ⟨pa, ca, rfl, a1, a2, a3, a4⟩ := hs'
  obtain ⟨pb, cb, rfl, -, -, -, -⟩ := ht'
  obtain ⟨pc, cc, b, pm, nm, cm, rfl, -, -⟩ := ht
  have bx := below1 w (.cells #[.slice pa p.syms.length ca, .slice pb p.terms.length cb] 27)
  have hx0 := heap_alloc_new w (.cells #[.slice pa p.syms.length ca, .slice pb p.terms.length cb] 27)
  have hz := size_alloc w (.cells #[.slice pa p.syms.length ca, .slice pb p.terms.length cb] 27)
  have by_ := below1 (w.alloc (.cells #[.slice pa p.syms.length ca, .slice pb p.terms.length cb] 27)) (.cells #[.int .i64 t.op, .slice pc t.args.length cc, .bool b, .slice pm nm cm, .int .i64 t.sym] 39)
  have hy0 := heap_alloc_new (w.alloc (.cells #[.slice pa p.syms.length ca, .slice pb p.terms.length cb] 27)) (.cells #[.int .i64 t.op, .slice pc t.args.length cc, .bool b, .slice pm nm cm, .int .i64 t.sym] 39)
  rw [hz] at hy0
  have hx1 := (by_.block w.heap.size (by omega)).trans hx0
  have bw := bel_go by_ bx
  have qy := five_cells hy0
  have qx := two_cells hx1
  obtain ⟨y0, -, -, -, y4⟩ := qy
  obtain ⟨z0, -, -, -⟩ := qx
  unfold maxLen at a2
  clear hx0 hy0 hx1 a3 hz by_
  obtain ⟨op, ar, nu, sy⟩ := t
  dsimp only at *
  by_cases c4 : op = 4
  · subst c4
    have hsy : ∃ j : Nat, sy = (j : Nat) ∧ j < p.syms.length := by
      unfold plNoSym at hs
      simp at hs
      exact ⟨sy.toNat, by omega, by omega⟩
    obtain ⟨j, rfl, hjl⟩ := hsy
    obtain ⟨ba, offa, rfl, k1, k2⟩ := a4 (by omega)
    have n1 := (k2 j hjl).2.1
    have n1 := (bw.cell (p := ⟨ba, offa + j * 3 + 1, none⟩) k1).trans n1
    have hjl' : (j : Int) < (p.syms.length : Nat) := by omega
    have hl : plLeast p ⟨4, ar, nu, (j : Nat)⟩ = p.syms[j].arity := by unfold plLeast plSymAt; simp [hjl]
    have hm : plMost p ⟨4, ar, nu, (j : Nat)⟩ = p.syms[j].arity := by unfold plMost plSymAt; simp [hjl]
    rw [hl, hm]
    clear hl hm k2 a4 hs bx
    generalize p.syms[j].arity = n at *
    go_enter Tryd.func56, Tryd.ntmps56
    go_wp2_with fail
    go_quiet (fail)
    go_wp2
    go_ret2
    exact ⟨rfl, below_drewN bw _⟩
  · clear a4 hs bx z0
    have hc : op = 1 ∨ op = 2 ∨ op = 3 ∨ op = 5 ∨ op = 6 ∨ op = 7 ∨ op = 8 ∨ op = 9 ∨ op = 10 ∨ op = 11 ∨ op = 12 ∨ op = 13 := by omega
    clear hlo hhi c4
    rcases hc with rfl | rfl | rfl | rfl | rfl | rfl | rfl | rfl | rfl | rfl | rfl | rfl
    all_goals
      go_enter Tryd.func56, Tryd.ntmps56
      go_wp2
      go_ret2
      exact ⟨rfl, bw⟩
end Go.Proofs.YtmdkfpidohcafaaDoor
/- elenchusref04.CheckTerm. -/
namespace Go.Proofs.YtmdkfpidohcafaaDoor
open Go.RowKit Big Go.WideMaps

theorem wrong_form {p : Po} {t : Tm} (h : plBadForm t = true) : plWrong p t = 6 := by unfold plWrong; rw [if_pos h]
theorem wrong_sym {p : Po} {t : Tm} (h : plBadForm t = false) (h1 : plNoSym p t = true) : plWrong p t = 7 := by unfold plWrong; rw [if_neg (by simp [h]), if_pos h1]
theorem wrong_part {p : Po} {t : Tm} (h : plBadForm t = false) (h1 : plNoSym p t = false) (h2 : plNoPart p t = true) : plWrong p t = 1 := by unfold plWrong; rw [if_neg (by simp [h]), if_neg (by simp [h1]), if_pos h2]
theorem wrong_count {p : Po} {t : Tm} (h : plBadForm t = false) (h1 : plNoSym p t = false) (h2 : plNoPart p t = false) (h3 : plBadCount p t = true) : plWrong p t = 9 := by unfold plWrong; rw [if_neg (by simp [h]), if_neg (by simp [h1]), if_neg (by simp [h2]), if_pos h3]
theorem wrong_sort {p : Po} {t : Tm} (h : plBadForm t = false) (h1 : plNoSym p t = false) (h2 : plNoPart p t = false) (h3 : plBadCount p t = false) (h4 : plBadSort p t = true) : plWrong p t = 8 := by unfold plWrong; rw [if_neg (by simp [h]), if_neg (by simp [h1]), if_neg (by simp [h2]), if_neg (by simp [h3]), if_pos h4]
theorem wrong_none {p : Po} {t : Tm} (h : plBadForm t = false) (h1 : plNoSym p t = false) (h2 : plNoPart p t = false) (h3 : plBadCount p t = false) (h4 : plBadSort p t = false) : plWrong p t = 0 := by unfold plWrong; rw [if_neg (by simp [h]), if_neg (by simp [h1]), if_neg (by simp [h2]), if_neg (by simp [h3]), if_neg (by simp [h4])]
/-- the reference's first two tests, in its words -/
def rfForm (t : Tm) : Bool := (t.op != 3 && t.op != 13 && t.num.sign != 0) || (t.op != 4 && t.sym != 0)
theorem rule_out {op : Int} (h : ¬ (1 ≤ op ∧ op ≤ 13)) : plRule op = none := by
  unfold plRule
  rw [if_neg (by omega), if_neg (by omega), if_neg (by omega), if_neg (by omega), if_neg (by omega), if_neg (by omega), if_neg (by omega), if_neg (by omega), if_neg (by omega), if_neg (by omega)]
theorem sign_ne (z : Int) : (z.sign != 0) = (z != 0) := by
  rcases Int.lt_trichotomy z 0 with h | h | h
  · rw [Int.sign_eq_neg_one_of_neg h]; simp; omega
  · rw [h]; rfl
  · rw [Int.sign_eq_one_of_pos h]; simp; omega
theorem badForm_in {t : Tm} (h0 : 1 ≤ t.op) (h1 : t.op ≤ 13) : plBadForm t = rfForm t := by
  unfold plBadForm rfForm
  rw [sign_ne]
  have hc : t.op = 1 ∨ t.op = 2 ∨ t.op = 3 ∨ t.op = 4 ∨ t.op = 5 ∨ t.op = 6 ∨ t.op = 7 ∨ t.op = 8 ∨ t.op = 9 ∨ t.op = 10 ∨ t.op = 11 ∨ t.op = 12 ∨ t.op = 13 := by omega
  rcases hc with h | h | h | h | h | h | h | h | h | h | h | h | h <;> rw [h] <;> simp [plRu, plRule]
theorem badForm_out {t : Tm} (h : ¬ (1 ≤ t.op ∧ t.op ≤ 13)) : plBadForm t = true := by
  unfold plBadForm
  rw [rule_out h]
  rfl
theorem badCount_eq (p : Po) (t : Tm) : plBadCount p t = (decide ((t.args.length : Int) < plLeast p t) || decide (plMost p t < (t.args.length : Int))) := by
  unfold plBadCount plLeast plMost
  split
  · rw [Bool.eq_iff_iff]; simp; omega
  · rfl
/-- what the reference wants of the part at place i -/
def rfWant (p : Po) (t : Tm) (i : Nat) : Int := if t.op = 4 ∨ t.op = 10 ∨ t.op = 11 ∨ t.op = 12 ∨ t.op = 13 then 2 else if t.op = 9 ∧ 0 < i then plSortAt p (t.args[1]?.getD 0) else 1
theorem want_eq (p : Po) (t : Tm) (i : Nat) (h0 : 1 ≤ t.op) (h1 : t.op ≤ 13) (hc : plBadCount p t = false) (hi : i < t.args.length) : plPart p t i = rfWant p t i := by
  unfold plPart rfWant
  have hn : ¬ (t.op = 1 ∨ t.op = 2 ∨ t.op = 3) := fun h => by
    unfold plBadCount at hc
    rw [if_neg (by omega)] at hc
    simp at hc
    have h2 := hc.2
    have : (plRu t.op).most = 0 := by rcases h with h | h | h <;> rw [h] <;> rfl
    omega
  by_cases h9 : t.op = 9
  · rw [h9]
    by_cases hp : 0 < i
    · simp [hp]
    · simp [hp, plRu, plRule]
  · rw [if_neg (fun h => h9 h.1), if_neg (c := t.op = 9 ∧ 0 < i) (fun h => h9 h.1)]
    have hcs : t.op = 4 ∨ t.op = 5 ∨ t.op = 6 ∨ t.op = 7 ∨ t.op = 8 ∨ t.op = 10 ∨ t.op = 11 ∨ t.op = 12 ∨ t.op = 13 := by omega
    rcases hcs with h | h | h | h | h | h | h | h | h <;> rw [h] <;> rfl
end Go.Proofs.YtmdkfpidohcafaaDoor
/- elenchusref04.CheckTerm, walked. -/
namespace Go.Proofs.YtmdkfpidohcafaaDoor
open Go.RowKit Big Go.WideMaps

theorem part_in {p : Po} {t : Tm} (h : plNoPart p t = false) (i : Nat) (hi : i < t.args.length) : ∃ m : Nat, t.args[i] = (m : Nat) ∧ m < p.terms.length := by
  have h0 : plNoTerm p t.args[i] = false := by
    cases hx : plNoTerm p t.args[i] with
    | false => rfl
    | true =>
      have h2 : plNoPart p t = true := List.any_eq_true.2 ⟨_, List.getElem_mem hi, hx⟩
      rw [h] at h2
      cases h2
  unfold plNoTerm at h0
  simp at h0
  exact ⟨t.args[i].toNat, by omega, by omega⟩
set_option maxRecDepth 100000 in
set_option maxHeartbeats 25600000 in
theorem CheckTerm_any (p : Po) (hp : PoGood p) (t : Tm) (v vt : Value) (w : World) (hr : RwIn w v p.syms p.terms) (ht : TmRaw w vt t) :
    Calls Tryd.prog 34 #[v, vt] w (RNum .i64 (plWrong p t) w) := by
  have Hr := hid hr
  have Ht := hid ht
  obtain ⟨va, vb, rfl, hs', ht'⟩ := hr
  obtain ⟨pa, ca, rfl, a1, a2, a3, a4⟩ := hs'
  obtain ⟨pb, cb, rfl, -, b2, -, -⟩ := ht'
  obtain ⟨pc, cc, b, pm, nm, cm, rfl, hargs, hnum⟩ := ht
  have hsg := fun W (hW : Below w.heap.size w W) => RSign_any (.agg #[.bool b, .slice pm nm cm]) t.num W (hnum.below hW)
  have bx := below1 w (.cells #[.slice pa p.syms.length ca, .slice pb p.terms.length cb] 27)
  have hx0 := heap_alloc_new w (.cells #[.slice pa p.syms.length ca, .slice pb p.terms.length cb] 27)
  have hz := size_alloc w (.cells #[.slice pa p.syms.length ca, .slice pb p.terms.length cb] 27)
  have by_ := below1 (w.alloc (.cells #[.slice pa p.syms.length ca, .slice pb p.terms.length cb] 27)) (.cells #[.int .i64 t.op, .slice pc t.args.length cc, .bool b, .slice pm nm cm, .int .i64 t.sym] 39)
  have hy0 := heap_alloc_new (w.alloc (.cells #[.slice pa p.syms.length ca, .slice pb p.terms.length cb] 27)) (.cells #[.int .i64 t.op, .slice pc t.args.length cc, .bool b, .slice pm nm cm, .int .i64 t.sym] 39)
  have hz2 := size_alloc (w.alloc (.cells #[.slice pa p.syms.length ca, .slice pb p.terms.length cb] 27)) (.cells #[.int .i64 t.op, .slice pc t.args.length cc, .bool b, .slice pm nm cm, .int .i64 t.sym] 39)
  rw [hz] at hy0 hz2
  have hx1 := (by_.block w.heap.size (by omega)).trans hx0
  have bw := bel_go by_ bx
  have Hsg := hid hsg
  obtain ⟨r, hrr⟩ : ∃ r, r = plWrong p t := ⟨_, rfl⟩
  rw [← hrr]
  have Hrr := hid hrr
  have Hcn := hid (fun W (hW : Below w.heap.size w W) h0 h1 h2 => counts_any p t _ _ W (Hr.out.below hW) (Ht.out.below hW) h0 h1 h2)
  have Hso := hid (fun k W (hW : Below w.heap.size w W) (hk : k < p.terms.length) => RSort_any p hp k _ W (Hr.out.below hW) hk)
  have hlen := hp.2.1
  clear hsg bx hx0 by_ hnum hrr
  unfold maxLen at a2 b2
  go_enter Tryd.func34, Tryd.ntmps34
  go_upto_region 1 with fail
  generalize hW : ((w.alloc (.cells #[.slice pa p.syms.length ca, .slice pb p.terms.length cb] 27)).alloc (.cells #[.int .i64 t.op, .slice pc t.args.length cc, .bool b, .slice pm nm cm, .int .i64 t.sym] 39)) = W2 at *
  clear hW hz
  have HX := hid hx1; have HY := hid hy0
  obtain ⟨z0, z1, -, -⟩ := two_cells hx1
  obtain ⟨y0, y1, y2, y3, y4⟩ := five_cells hy0
  clear hx1 hy0
  by_cases hop : 1 ≤ t.op ∧ t.op ≤ 13
  case neg =>
    have He := hid (show r = 6 by rw [Hrr.out]; exact wrong_form (badForm_out hop))
    by_cases h1 : t.op < 1
    · clear hop
      go_wp2
      go_ret
      exact ⟨by rw [He.out]; rfl, bw⟩
    · have h2 : 13 < t.op := by omega
      clear hop
      go_wp2
      go_ret
      exact ⟨by rw [He.out]; rfl, bw⟩
  case pos =>
  obtain ⟨hlo, hhi⟩ := hop
  have hbf := badForm_in hlo hhi
  have d1 : ¬ t.op < 1 := by omega
  have d2 : ¬ 13 < t.op := by omega
  go_upto_region 3 with fail
  cases hfm : rfForm t
  case true =>
    have He := hid (show r = 6 by rw [Hrr.out]; exact wrong_form (by rw [hbf, hfm]))
    unfold rfForm at hfm
    cases e3 : (t.op != 3)
    · cases e4 : (t.op != 4)
      · exfalso; rw [e3, e4] at hfm; cases hfm
      · cases e5 : (t.sym != 0)
        · exfalso; rw [e3, e4, e5] at hfm; cases hfm
        · clear hfm hbf
          go_wp2
          go_ret
          exact ⟨by rw [He.out]; rfl, bw⟩
    · cases e13 : (t.op != 13)
      · cases e4 : (t.op != 4)
        · exfalso; rw [e3, e13, e4] at hfm; cases hfm
        · cases e5 : (t.sym != 0)
          · exfalso; rw [e3, e13, e4, e5] at hfm; cases hfm
          · clear hfm hbf
            go_wp2
            go_ret
            exact ⟨by rw [He.out]; rfl, bw⟩
      · cases e6 : (t.num.sign != 0)
        · cases e4 : (t.op != 4)
          · exfalso; rw [e3, e13, e4, e6] at hfm; cases hfm
          · cases e5 : (t.sym != 0)
            · exfalso; rw [e3, e13, e4, e5, e6] at hfm; cases hfm
            · clear hfm hbf
              go_wp2_with fail
              refine (Hsg.out _ bw).mono ?_
              rintro e w3 ⟨rfl, b3⟩
              have y0 := (b3.cell (p := ⟨w.heap.size + 1, 0, none⟩) (by dsimp only; omega)).trans y0
              have y4 := (b3.cell (p := ⟨w.heap.size + 1, 4, none⟩) (by dsimp only; omega)).trans y4
              have bw3 := bel_go b3 bw
              clear z0 z1 y1 y2 y3 b3 bw
              go_wp2
              go_ret
              exact ⟨by rw [He.out]; rfl, bw3⟩
        · clear hfm hbf
          go_wp2_with fail
          refine (Hsg.out _ bw).mono ?_
          rintro e w3 ⟨rfl, b3⟩
          have bw3 := bel_go b3 bw
          clear z0 z1 y0 y1 y2 y3 y4 b3 bw
          go_wp2
          go_ret
          exact ⟨by rw [He.out]; rfl, bw3⟩
  case false =>
  have Hbf := hid (show plBadForm t = false by rw [hbf, hfm])
  have hcls : (t.op = 3 ∨ t.op = 13 ∨ (t.op = 4 ∧ t.num.sign = 0) ∨ ((t.op != 3) = true ∧ (t.op != 13) = true ∧ (t.op != 4) = true ∧ t.num.sign = 0)) ∧ ((t.op != 4) = true → (t.sym != 0) = false) := by
    unfold rfForm at hfm
    by_cases h3 : t.op = 3
    · simp [h3] at hfm ⊢; exact hfm
    · by_cases h13 : t.op = 13
      · simp [h13] at hfm ⊢; exact hfm
      · by_cases h4 : t.op = 4
        · simp [h4] at hfm ⊢; exact hfm
        · simp [h3, h13, h4] at hfm ⊢; exact hfm
  clear hfm hbf d1 d2
  obtain ⟨hcl, hsy⟩ := hcls
  have HZ : Hid (∀ w', Below W2.heap.size W2 w' → w'.cell? ⟨w.heap.size, 0, none⟩ = some (.slice pa p.syms.length ca) ∧ w'.cell? ⟨w.heap.size, 1, none⟩ = some (.slice pb p.terms.length cb) ∧ w'.cell? ⟨w.heap.size + 1, 0, none⟩ = some (.int .i64 t.op) ∧ w'.cell? ⟨w.heap.size + 1, 1, none⟩ = some (.slice pc t.args.length cc) ∧ w'.cell? ⟨w.heap.size + 1, 2, none⟩ = some (.bool b) ∧ w'.cell? ⟨w.heap.size + 1, 3, none⟩ = some (.slice pm nm cm) ∧ w'.cell? ⟨w.heap.size + 1, 4, none⟩ = some (.int .i64 t.sym)) := hid fun w' hb => ⟨(two_cells ((hb.block w.heap.size (by omega)).trans HX.out)).1, (two_cells ((hb.block w.heap.size (by omega)).trans HX.out)).2.1, five_cells ((hb.block (w.heap.size + 1) (by omega)).trans HY.out)⟩
  have HBw := hid bw
  rcases hcl with h3 | h13 | ⟨h4, hs0⟩ | ⟨e3, e13, e4, hs0⟩
  · have e3 : (t.op != 3) = false := by simp [h3]
    have e4 : (t.op != 4) = true := by simp [h3]
    have e5 := hsy e4
    have g4 : (t.op == 4) = false := by simp [h3]
    have Hns := hid (show plNoSym p t = false by unfold plNoSym; rw [g4]; rfl)
    have Hh3 := hid h3
    clear h3
    clear hsy
    go_upto_region 5 with fail
    clear z0 z1 y0 y1 y2 y3 y4 e3 e4 e5
    have Bz := hid (Below.refl W2.heap.size W2)
    obtain ⟨z0, z1, y0, y1, y2, y3, y4⟩ := HZ.out W2 Bz.out
    go_upto_region 7 with fail
    clear z0 z1 y0 y2 y3 y4
    go_wp2_with fail
    go_loopw [63] (fun i wr => ∃ k : Nat, k ≤ t.args.length ∧ i = .int .i64 (k : Nat) ∧ Hid ((t.args.take k).any (plNoTerm p) = false) ∧ Hid (Below W2.heap.size W2 wr)) (fun i _ => t.args.length - (intOf i).toNat)
    case atStart => exact ⟨0, Nat.zero_le _, rfl, hid rfl, hid (Below.refl _ _)⟩
    case round =>
      obtain ⟨k, hk, rfl, hany, Hb⟩ := hrel
      have Hbw := hid (bel_go Hb.out Bz.out)
      by_cases hlt : k < t.args.length
      · have hlt' : (k : Int) < (t.args.length : Nat) := by omega
        obtain ⟨_, _, e, i1, i2, i3, i4⟩ := hargs
        cases e
        obtain ⟨bb, off, rfl, o1, o2⟩ := i4 (by omega)
        have m1 := ((bel_go Hbw.out HBw.out).cell (p := ⟨bb, off + k, none⟩) o1).trans (o2 k hlt)
        have h0 := HZ.out wr Hbw.out
        obtain ⟨-, z1, -, -, -, -, -⟩ := h0
        have Hs1 := hid (any_take_succ (plNoTerm p) t.args k hlt hany.out)
        have Hs2 := hid (any_of_at (plNoTerm p) t.args k hlt)
        unfold maxLen at i2
        clear o2 i4 hany i3
        generalize t.args[k] = x at *
        cases hneg : decide (x < 0)
        · cases hge : decide ((p.terms.length : Int) ≤ x)
          · have hf : plNoTerm p x = false := by unfold plNoTerm; rw [hneg, hge]; rfl
            have Hf := hid hf
            clear hf
            go_wp2_with fail
            go_roundw
            case rel => exact ⟨k + 1, by omega, rfl, hid (Hs1.out Hf.out), Hb⟩
            case measure => simp [intOf]; omega
          · have hf : plNoTerm p x = true := by unfold plNoTerm; rw [hneg, hge]; rfl
            have He := hid (show r = 1 by rw [Hrr.out]; exact wrong_part Hbf.out Hns.out (Hs2.out hf))
            clear hf
            go_wp2_with fail
            go_ret
            exact ⟨by rw [He.out]; rfl, bel_go Hbw.out HBw.out⟩
        · have hf : plNoTerm p x = true := by unfold plNoTerm; rw [hneg]; rfl
          have He := hid (show r = 1 by rw [Hrr.out]; exact wrong_part Hbf.out Hns.out (Hs2.out hf))
          clear hf
          go_wp2_with fail
          go_ret
          exact ⟨by rw [He.out]; rfl, bel_go Hbw.out HBw.out⟩
      · have hkk : k = t.args.length := by omega
        subst hkk
        have Hnp : Hid (plNoPart p t = false) := hid (by have := hany.out; rwa [List.take_length] at this)
        have h0 := HZ.out wr Hbw.out
        obtain ⟨z0, z1, y0, y1, y2, y3, y4⟩ := h0
        clear hany
        go_wp2_with fail
        refine (Hcn.out _ (bel_go Hbw.out HBw.out) hlo hhi Hns.out).mono ?_
        rintro e w5 ⟨rfl, b5⟩
        clear z0 z1 y0 y1 y2 y3 y4
        have Hb5 := hid (bel_go b5 Hbw.out)
        have h0 := HZ.out w5 Hb5.out
        obtain ⟨z0, z1, y0, y1, y2, y3, y4⟩ := h0
        have hbc := badCount_eq p t
        generalize plLeast p t = lst at *
        generalize plMost p t = mst at *
        clear b5 Hb Hbw
        cases e1 : decide ((t.args.length : Int) < lst)
        case true =>
          have He := hid (show r = 9 by rw [Hrr.out]; exact wrong_count Hbf.out Hns.out Hnp.out (by rw [hbc, e1]; rfl))
          clear hbc z0 z1 y0 y2 y3 y4
          go_wp2
          go_ret
          exact ⟨by rw [He.out]; rfl, bel_go Hb5.out HBw.out⟩
        case false =>
        cases e2 : decide (mst < (t.args.length : Int))
        case true =>
          have He := hid (show r = 9 by rw [Hrr.out]; exact wrong_count Hbf.out Hns.out Hnp.out (by rw [hbc, e1, e2]; rfl))
          clear hbc z0 z1 y0 y2 y3 y4
          go_wp2
          go_ret
          exact ⟨by rw [He.out]; rfl, bel_go Hb5.out HBw.out⟩
        case false =>
        have Hbc := hid (show plBadCount p t = false by rw [hbc, e1, e2]; rfl)
        clear hbc
        go_upto_region 16 with fail
        clear z0 z1 y0 y2 y3 y4 e1 e2
        go_wp2_with fail
        clear y1
        go_loopw [98] (fun i wr => ∃ k : Nat, k ≤ t.args.length ∧ i = .int .i64 (k : Nat) ∧ Hid (∀ i (hi : i < t.args.length), i < k → plBadAt p t i t.args[i] = false) ∧ Hid (Below w5.heap.size w5 wr)) (fun i _ => t.args.length - (intOf i).toNat)
        case atStart => exact ⟨0, Nat.zero_le _, rfl, hid (fun i _ h => absurd h (by omega)), hid (Below.refl _ _)⟩
        case round =>
          obtain ⟨k, hk, rfl, Hbad, Hb⟩ := hrel
          have Hbw := hid (bel_go Hb.out Hb5.out)
          by_cases hlt : k < t.args.length
          · have hlt' : (k : Int) < (t.args.length : Nat) := by omega
            obtain ⟨_, _, e, i1, i2, i3, i4⟩ := hargs
            cases e
            obtain ⟨bb, off, rfl, o1, o2⟩ := i4 (by omega)
            have m1 := ((bel_go Hbw.out HBw.out).cell (p := ⟨bb, off + k, none⟩) o1).trans (o2 k hlt)
            have hxm : ∃ m : Nat, t.args[k] = (m : Nat) ∧ m < p.terms.length := part_in Hnp.out k hlt
            obtain ⟨m, hxm, hm⟩ := hxm
            rw [hxm] at m1
            have Hxm := hid hxm
            have Hwe := hid (want_eq p t k hlo hhi Hbc.out hlt)
            unfold maxLen at i2
            clear hxm i3
            exfalso
            have h3 := Hh3.out
            have hq := Hbc.out
            unfold plBadCount at hq
            rw [if_neg (by omega), h3] at hq
            simp only [Bool.or_eq_false_iff, decide_eq_false_iff_not] at hq
            have h2 := hq.2
            rw [show (plRu 3).most = 0 from rfl] at h2
            omega
          · have hkk : k = t.args.length := by omega
            subst hkk
            have He := hid (show r = 0 by rw [Hrr.out]; exact wrong_none Hbf.out Hns.out Hnp.out Hbc.out (badSort_none p t fun i hi => Hbad.out i hi hi))
            go_wp2_with fail
            go_ret
            exact ⟨by rw [He.out]; rfl, bel_go Hbw.out HBw.out⟩
  · have e3 : (t.op != 3) = true := by simp [h13]
    have e13 : (t.op != 13) = false := by simp [h13]
    have e4 : (t.op != 4) = true := by simp [h13]
    have e5 := hsy e4
    have g4 : (t.op == 4) = false := by simp [h13]
    have Hns := hid (show plNoSym p t = false by unfold plNoSym; rw [g4]; rfl)
    have Hh13 := hid h13
    clear h13
    clear hsy
    go_upto_region 5 with fail
    clear z0 z1 y0 y1 y2 y3 y4 e3 e4 e5 e13
    have Bz := hid (Below.refl W2.heap.size W2)
    obtain ⟨z0, z1, y0, y1, y2, y3, y4⟩ := HZ.out W2 Bz.out
    go_upto_region 7 with fail
    clear z0 z1 y0 y2 y3 y4
    go_wp2_with fail
    go_loopw [63] (fun i wr => ∃ k : Nat, k ≤ t.args.length ∧ i = .int .i64 (k : Nat) ∧ Hid ((t.args.take k).any (plNoTerm p) = false) ∧ Hid (Below W2.heap.size W2 wr)) (fun i _ => t.args.length - (intOf i).toNat)
    case atStart => exact ⟨0, Nat.zero_le _, rfl, hid rfl, hid (Below.refl _ _)⟩
    case round =>
      obtain ⟨k, hk, rfl, hany, Hb⟩ := hrel
      have Hbw := hid (bel_go Hb.out Bz.out)
      by_cases hlt : k < t.args.length
      · have hlt' : (k : Int) < (t.args.length : Nat) := by omega
        obtain ⟨_, _, e, i1, i2, i3, i4⟩ := hargs
        cases e
        obtain ⟨bb, off, rfl, o1, o2⟩ := i4 (by omega)
        have m1 := ((bel_go Hbw.out HBw.out).cell (p := ⟨bb, off + k, none⟩) o1).trans (o2 k hlt)
        have h0 := HZ.out wr Hbw.out
        obtain ⟨-, z1, -, -, -, -, -⟩ := h0
        have Hs1 := hid (any_take_succ (plNoTerm p) t.args k hlt hany.out)
        have Hs2 := hid (any_of_at (plNoTerm p) t.args k hlt)
        unfold maxLen at i2
        clear o2 i4 hany i3
        generalize t.args[k] = x at *
        cases hneg : decide (x < 0)
        · cases hge : decide ((p.terms.length : Int) ≤ x)
          · have hf : plNoTerm p x = false := by unfold plNoTerm; rw [hneg, hge]; rfl
            have Hf := hid hf
            clear hf
            go_wp2_with fail
            go_roundw
            case rel => exact ⟨k + 1, by omega, rfl, hid (Hs1.out Hf.out), Hb⟩
            case measure => simp [intOf]; omega
          · have hf : plNoTerm p x = true := by unfold plNoTerm; rw [hneg, hge]; rfl
            have He := hid (show r = 1 by rw [Hrr.out]; exact wrong_part Hbf.out Hns.out (Hs2.out hf))
            clear hf
            go_wp2_with fail
            go_ret
            exact ⟨by rw [He.out]; rfl, bel_go Hbw.out HBw.out⟩
        · have hf : plNoTerm p x = true := by unfold plNoTerm; rw [hneg]; rfl
          have He := hid (show r = 1 by rw [Hrr.out]; exact wrong_part Hbf.out Hns.out (Hs2.out hf))
          clear hf
          go_wp2_with fail
          go_ret
          exact ⟨by rw [He.out]; rfl, bel_go Hbw.out HBw.out⟩
      · have hkk : k = t.args.length := by omega
        subst hkk
        have Hnp : Hid (plNoPart p t = false) := hid (by have := hany.out; rwa [List.take_length] at this)
        have h0 := HZ.out wr Hbw.out
        obtain ⟨z0, z1, y0, y1, y2, y3, y4⟩ := h0
        clear hany
        go_wp2_with fail
        refine (Hcn.out _ (bel_go Hbw.out HBw.out) hlo hhi Hns.out).mono ?_
        rintro e w5 ⟨rfl, b5⟩
        clear z0 z1 y0 y1 y2 y3 y4
        have Hb5 := hid (bel_go b5 Hbw.out)
        have h0 := HZ.out w5 Hb5.out
        obtain ⟨z0, z1, y0, y1, y2, y3, y4⟩ := h0
        have hbc := badCount_eq p t
        generalize plLeast p t = lst at *
        generalize plMost p t = mst at *
        clear b5 Hb Hbw
        cases e1 : decide ((t.args.length : Int) < lst)
        case true =>
          have He := hid (show r = 9 by rw [Hrr.out]; exact wrong_count Hbf.out Hns.out Hnp.out (by rw [hbc, e1]; rfl))
          clear hbc z0 z1 y0 y2 y3 y4
          go_wp2
          go_ret
          exact ⟨by rw [He.out]; rfl, bel_go Hb5.out HBw.out⟩
        case false =>
        cases e2 : decide (mst < (t.args.length : Int))
        case true =>
          have He := hid (show r = 9 by rw [Hrr.out]; exact wrong_count Hbf.out Hns.out Hnp.out (by rw [hbc, e1, e2]; rfl))
          clear hbc z0 z1 y0 y2 y3 y4
          go_wp2
          go_ret
          exact ⟨by rw [He.out]; rfl, bel_go Hb5.out HBw.out⟩
        case false =>
        have Hbc := hid (show plBadCount p t = false by rw [hbc, e1, e2]; rfl)
        clear hbc
        go_upto_region 16 with fail
        clear z0 z1 y0 y2 y3 y4 e1 e2
        go_wp2_with fail
        clear y1
        go_loopw [98] (fun i wr => ∃ k : Nat, k ≤ t.args.length ∧ i = .int .i64 (k : Nat) ∧ Hid (∀ i (hi : i < t.args.length), i < k → plBadAt p t i t.args[i] = false) ∧ Hid (Below w5.heap.size w5 wr)) (fun i _ => t.args.length - (intOf i).toNat)
        case atStart => exact ⟨0, Nat.zero_le _, rfl, hid (fun i _ h => absurd h (by omega)), hid (Below.refl _ _)⟩
        case round =>
          obtain ⟨k, hk, rfl, Hbad, Hb⟩ := hrel
          have Hbw := hid (bel_go Hb.out Hb5.out)
          by_cases hlt : k < t.args.length
          · have hlt' : (k : Int) < (t.args.length : Nat) := by omega
            obtain ⟨_, _, e, i1, i2, i3, i4⟩ := hargs
            cases e
            obtain ⟨bb, off, rfl, o1, o2⟩ := i4 (by omega)
            have m1 := ((bel_go Hbw.out HBw.out).cell (p := ⟨bb, off + k, none⟩) o1).trans (o2 k hlt)
            have hxm : ∃ m : Nat, t.args[k] = (m : Nat) ∧ m < p.terms.length := part_in Hnp.out k hlt
            obtain ⟨m, hxm, hm⟩ := hxm
            rw [hxm] at m1
            have Hxm := hid hxm
            have Hwe := hid (want_eq p t k hlo hhi Hbc.out hlt)
            unfold maxLen at i2
            clear hxm i3
            clear o2 i4
            have h13 := Hh13.out
            have g4 : (t.op == 4) = false := by simp; omega
            have g10 : (t.op == 10) = false := by simp; omega
            have g11 : (t.op == 11) = false := by simp; omega
            have g12 : (t.op == 12) = false := by simp; omega
            have g13 : (t.op == 13) = true := by simp; omega
            have hwant : rfWant p t k = 2 := by unfold rfWant; rw [if_pos (by omega)]
            have Hwant := hid hwant
            clear hwant h13
            have h0 := (HZ.out wr Hbw.out)
            obtain ⟨z0, z1, y0, y1, y2, y3, y4⟩ := h0
            go_upto_region 30 with fail
            clear y0 y1 y2 y3 y4
            go_wp2_with fail
            refine (Hso.out m _ (bel_go Hbw.out HBw.out) hm).mono ?_
            rintro e w6 ⟨rfl, b6⟩
            have HW6 := hid (bel_go b6 Hbw.out)
            have HB6 := hid (Hb.out.trans (b6.mono Hb.out.size))
            clear z0 z1 b6
            cases hne : (plSortAt p (m : Nat) != 2)
            · go_wp2_with fail
              go_roundw
              case rel =>
                refine ⟨k + 1, by omega, rfl, hid fun i hi hik => ?_, HB6⟩
                by_cases hie : i = k
                · subst hie
                  unfold plBadAt
                  rw [Hwe.out, Hxm.out, Hwant.out]
                  exact hne
                · exact Hbad.out i hi (by omega)
              case measure => simp [intOf]; omega
            · have He := hid (show r = 8 by
                rw [Hrr.out]
                exact wrong_sort Hbf.out Hns.out Hnp.out Hbc.out (badSort_of p t k hlt (by unfold plBadAt; rw [Hwe.out, Hxm.out, Hwant.out]; exact hne)))
              go_wp2_with fail
              go_ret
              exact ⟨by rw [He.out]; rfl, bel_go HW6.out HBw.out⟩
          · have hkk : k = t.args.length := by omega
            subst hkk
            have He := hid (show r = 0 by rw [Hrr.out]; exact wrong_none Hbf.out Hns.out Hnp.out Hbc.out (badSort_none p t fun i hi => Hbad.out i hi hi))
            go_wp2_with fail
            go_ret
            exact ⟨by rw [He.out]; rfl, bel_go Hbw.out HBw.out⟩
  · have e3 : (t.op != 3) = true := by simp [h4]
    have e13 : (t.op != 13) = true := by simp [h4]
    have e4 : (t.op != 4) = false := by simp [h4]
    have e6 : (t.num.sign != 0) = false := by simp [hs0]
    have g4 : (t.op == 4) = true := by simp [h4]
    have Hh4 := hid h4
    clear h4
    clear hsy hs0
    go_wp2_with fail
    refine (Hsg.out _ HBw.out).mono ?_
    rintro e wz ⟨rfl, b3⟩
    have Bz := hid b3
    clear z0 z1 y0 y1 y2 y3 y4 b3
    obtain ⟨z0, z1, y0, y1, y2, y3, y4⟩ := HZ.out wz Bz.out
    go_upto_region 5 with fail
    clear e3 e13 e4 e6
    cases hneg : decide (t.sym < 0)
    case true =>
      have He := hid (show r = 7 by rw [Hrr.out]; exact wrong_sym Hbf.out (by unfold plNoSym; rw [g4, hneg]; rfl))
      go_wp2
      go_ret
      exact ⟨by rw [He.out]; rfl, bel_go Bz.out HBw.out⟩
    case false =>
    cases hge : decide ((p.syms.length : Int) ≤ t.sym)
    case true =>
      have He := hid (show r = 7 by rw [Hrr.out]; exact wrong_sym Hbf.out (by unfold plNoSym; rw [g4, hneg, hge]; rfl))
      go_wp2
      go_ret
      exact ⟨by rw [He.out]; rfl, bel_go Bz.out HBw.out⟩
    case false =>
    have Hns := hid (show plNoSym p t = false by unfold plNoSym; rw [g4, hneg, hge]; rfl)
    go_upto_region 7 with fail
    clear z0 z1 y0 y2 y3 y4 hneg hge
    go_wp2_with fail
    go_loopw [63] (fun i wr => ∃ k : Nat, k ≤ t.args.length ∧ i = .int .i64 (k : Nat) ∧ Hid ((t.args.take k).any (plNoTerm p) = false) ∧ Hid (Below wz.heap.size wz wr)) (fun i _ => t.args.length - (intOf i).toNat)
    case atStart => exact ⟨0, Nat.zero_le _, rfl, hid rfl, hid (Below.refl _ _)⟩
    case round =>
      obtain ⟨k, hk, rfl, hany, Hb⟩ := hrel
      have Hbw := hid (bel_go Hb.out Bz.out)
      by_cases hlt : k < t.args.length
      · have hlt' : (k : Int) < (t.args.length : Nat) := by omega
        obtain ⟨_, _, e, i1, i2, i3, i4⟩ := hargs
        cases e
        obtain ⟨bb, off, rfl, o1, o2⟩ := i4 (by omega)
        have m1 := ((bel_go Hbw.out HBw.out).cell (p := ⟨bb, off + k, none⟩) o1).trans (o2 k hlt)
        have h0 := HZ.out wr Hbw.out
        obtain ⟨-, z1, -, -, -, -, -⟩ := h0
        have Hs1 := hid (any_take_succ (plNoTerm p) t.args k hlt hany.out)
        have Hs2 := hid (any_of_at (plNoTerm p) t.args k hlt)
        unfold maxLen at i2
        clear o2 i4 hany i3
        generalize t.args[k] = x at *
        cases hneg : decide (x < 0)
        · cases hge : decide ((p.terms.length : Int) ≤ x)
          · have hf : plNoTerm p x = false := by unfold plNoTerm; rw [hneg, hge]; rfl
            have Hf := hid hf
            clear hf
            go_wp2_with fail
            go_roundw
            case rel => exact ⟨k + 1, by omega, rfl, hid (Hs1.out Hf.out), Hb⟩
            case measure => simp [intOf]; omega
          · have hf : plNoTerm p x = true := by unfold plNoTerm; rw [hneg, hge]; rfl
            have He := hid (show r = 1 by rw [Hrr.out]; exact wrong_part Hbf.out Hns.out (Hs2.out hf))
            clear hf
            go_wp2_with fail
            go_ret
            exact ⟨by rw [He.out]; rfl, bel_go Hbw.out HBw.out⟩
        · have hf : plNoTerm p x = true := by unfold plNoTerm; rw [hneg]; rfl
          have He := hid (show r = 1 by rw [Hrr.out]; exact wrong_part Hbf.out Hns.out (Hs2.out hf))
          clear hf
          go_wp2_with fail
          go_ret
          exact ⟨by rw [He.out]; rfl, bel_go Hbw.out HBw.out⟩
      · have hkk : k = t.args.length := by omega
        subst hkk
        have Hnp : Hid (plNoPart p t = false) := hid (by have := hany.out; rwa [List.take_length] at this)
        have h0 := HZ.out wr Hbw.out
        obtain ⟨z0, z1, y0, y1, y2, y3, y4⟩ := h0
        clear hany
        go_wp2_with fail
        refine (Hcn.out _ (bel_go Hbw.out HBw.out) hlo hhi Hns.out).mono ?_
        rintro e w5 ⟨rfl, b5⟩
        clear z0 z1 y0 y1 y2 y3 y4
        have Hb5 := hid (bel_go b5 Hbw.out)
        have h0 := HZ.out w5 Hb5.out
        obtain ⟨z0, z1, y0, y1, y2, y3, y4⟩ := h0
        have hbc := badCount_eq p t
        generalize plLeast p t = lst at *
        generalize plMost p t = mst at *
        clear b5 Hb Hbw
        cases e1 : decide ((t.args.length : Int) < lst)
        case true =>
          have He := hid (show r = 9 by rw [Hrr.out]; exact wrong_count Hbf.out Hns.out Hnp.out (by rw [hbc, e1]; rfl))
          clear hbc z0 z1 y0 y2 y3 y4
          go_wp2
          go_ret
          exact ⟨by rw [He.out]; rfl, bel_go Hb5.out HBw.out⟩
        case false =>
        cases e2 : decide (mst < (t.args.length : Int))
        case true =>
          have He := hid (show r = 9 by rw [Hrr.out]; exact wrong_count Hbf.out Hns.out Hnp.out (by rw [hbc, e1, e2]; rfl))
          clear hbc z0 z1 y0 y2 y3 y4
          go_wp2
          go_ret
          exact ⟨by rw [He.out]; rfl, bel_go Hb5.out HBw.out⟩
        case false =>
        have Hbc := hid (show plBadCount p t = false by rw [hbc, e1, e2]; rfl)
        clear hbc
        go_upto_region 16 with fail
        clear z0 z1 y0 y2 y3 y4 e1 e2
        go_wp2_with fail
        clear y1
        go_loopw [98] (fun i wr => ∃ k : Nat, k ≤ t.args.length ∧ i = .int .i64 (k : Nat) ∧ Hid (∀ i (hi : i < t.args.length), i < k → plBadAt p t i t.args[i] = false) ∧ Hid (Below w5.heap.size w5 wr)) (fun i _ => t.args.length - (intOf i).toNat)
        case atStart => exact ⟨0, Nat.zero_le _, rfl, hid (fun i _ h => absurd h (by omega)), hid (Below.refl _ _)⟩
        case round =>
          obtain ⟨k, hk, rfl, Hbad, Hb⟩ := hrel
          have Hbw := hid (bel_go Hb.out Hb5.out)
          by_cases hlt : k < t.args.length
          · have hlt' : (k : Int) < (t.args.length : Nat) := by omega
            obtain ⟨_, _, e, i1, i2, i3, i4⟩ := hargs
            cases e
            obtain ⟨bb, off, rfl, o1, o2⟩ := i4 (by omega)
            have m1 := ((bel_go Hbw.out HBw.out).cell (p := ⟨bb, off + k, none⟩) o1).trans (o2 k hlt)
            have hxm : ∃ m : Nat, t.args[k] = (m : Nat) ∧ m < p.terms.length := part_in Hnp.out k hlt
            obtain ⟨m, hxm, hm⟩ := hxm
            rw [hxm] at m1
            have Hxm := hid hxm
            have Hwe := hid (want_eq p t k hlo hhi Hbc.out hlt)
            unfold maxLen at i2
            clear hxm i3
            clear o2 i4
            have h4 := Hh4.out
            have hwant : rfWant p t k = 2 := by unfold rfWant; rw [if_pos (by omega)]
            have Hwant := hid hwant
            clear hwant h4
            have h0 := (HZ.out wr Hbw.out)
            obtain ⟨z0, z1, y0, y1, y2, y3, y4⟩ := h0
            go_upto_region 30 with fail
            clear y0 y1 y2 y3 y4
            go_wp2_with fail
            refine (Hso.out m _ (bel_go Hbw.out HBw.out) hm).mono ?_
            rintro e w6 ⟨rfl, b6⟩
            have HW6 := hid (bel_go b6 Hbw.out)
            have HB6 := hid (Hb.out.trans (b6.mono Hb.out.size))
            clear z0 z1 b6
            cases hne : (plSortAt p (m : Nat) != 2)
            · go_wp2_with fail
              go_roundw
              case rel =>
                refine ⟨k + 1, by omega, rfl, hid fun i hi hik => ?_, HB6⟩
                by_cases hie : i = k
                · subst hie
                  unfold plBadAt
                  rw [Hwe.out, Hxm.out, Hwant.out]
                  exact hne
                · exact Hbad.out i hi (by omega)
              case measure => simp [intOf]; omega
            · have He := hid (show r = 8 by
                rw [Hrr.out]
                exact wrong_sort Hbf.out Hns.out Hnp.out Hbc.out (badSort_of p t k hlt (by unfold plBadAt; rw [Hwe.out, Hxm.out, Hwant.out]; exact hne)))
              go_wp2_with fail
              go_ret
              exact ⟨by rw [He.out]; rfl, bel_go HW6.out HBw.out⟩
          · have hkk : k = t.args.length := by omega
            subst hkk
            have He := hid (show r = 0 by rw [Hrr.out]; exact wrong_none Hbf.out Hns.out Hnp.out Hbc.out (badSort_none p t fun i hi => Hbad.out i hi hi))
            go_wp2_with fail
            go_ret
            exact ⟨by rw [He.out]; rfl, bel_go Hbw.out HBw.out⟩
  · have e5 := hsy e4
    have e6 : (t.num.sign != 0) = false := by simp [hs0]
    have g4 : (t.op == 4) = false := by simpa [bne] using e4
    have g13 : (t.op == 13) = false := by simpa [bne] using e13
    have Hns := hid (show plNoSym p t = false by unfold plNoSym; rw [g4]; rfl)
    have n3 : t.op ≠ 3 := by simpa using e3
    have n13 : t.op ≠ 13 := by simpa using e13
    have n4 : t.op ≠ 4 := by simpa using e4
    have Nx := hid (And.intro n3 (And.intro n13 n4))
    clear n3 n13 n4
    clear hsy hs0
    go_wp2_with fail
    refine (Hsg.out _ HBw.out).mono ?_
    rintro e wz ⟨rfl, b3⟩
    have Bz := hid b3
    clear z0 z1 y0 y1 y2 y3 y4 b3
    obtain ⟨z0, z1, y0, y1, y2, y3, y4⟩ := HZ.out wz Bz.out
    go_upto_region 5 with fail
    clear e3 e13 e4 e5 e6
    go_upto_region 7 with fail
    clear z0 z1 y0 y2 y3 y4
    go_wp2_with fail
    go_loopw [63] (fun i wr => ∃ k : Nat, k ≤ t.args.length ∧ i = .int .i64 (k : Nat) ∧ Hid ((t.args.take k).any (plNoTerm p) = false) ∧ Hid (Below wz.heap.size wz wr)) (fun i _ => t.args.length - (intOf i).toNat)
    case atStart => exact ⟨0, Nat.zero_le _, rfl, hid rfl, hid (Below.refl _ _)⟩
    case round =>
      obtain ⟨k, hk, rfl, hany, Hb⟩ := hrel
      have Hbw := hid (bel_go Hb.out Bz.out)
      by_cases hlt : k < t.args.length
      · have hlt' : (k : Int) < (t.args.length : Nat) := by omega
        obtain ⟨_, _, e, i1, i2, i3, i4⟩ := hargs
        cases e
        obtain ⟨bb, off, rfl, o1, o2⟩ := i4 (by omega)
        have m1 := ((bel_go Hbw.out HBw.out).cell (p := ⟨bb, off + k, none⟩) o1).trans (o2 k hlt)
        have h0 := HZ.out wr Hbw.out
        obtain ⟨-, z1, -, -, -, -, -⟩ := h0
        have Hs1 := hid (any_take_succ (plNoTerm p) t.args k hlt hany.out)
        have Hs2 := hid (any_of_at (plNoTerm p) t.args k hlt)
        unfold maxLen at i2
        clear o2 i4 hany i3
        generalize t.args[k] = x at *
        cases hneg : decide (x < 0)
        · cases hge : decide ((p.terms.length : Int) ≤ x)
          · have hf : plNoTerm p x = false := by unfold plNoTerm; rw [hneg, hge]; rfl
            have Hf := hid hf
            clear hf
            go_wp2_with fail
            go_roundw
            case rel => exact ⟨k + 1, by omega, rfl, hid (Hs1.out Hf.out), Hb⟩
            case measure => simp [intOf]; omega
          · have hf : plNoTerm p x = true := by unfold plNoTerm; rw [hneg, hge]; rfl
            have He := hid (show r = 1 by rw [Hrr.out]; exact wrong_part Hbf.out Hns.out (Hs2.out hf))
            clear hf
            go_wp2_with fail
            go_ret
            exact ⟨by rw [He.out]; rfl, bel_go Hbw.out HBw.out⟩
        · have hf : plNoTerm p x = true := by unfold plNoTerm; rw [hneg]; rfl
          have He := hid (show r = 1 by rw [Hrr.out]; exact wrong_part Hbf.out Hns.out (Hs2.out hf))
          clear hf
          go_wp2_with fail
          go_ret
          exact ⟨by rw [He.out]; rfl, bel_go Hbw.out HBw.out⟩
      · have hkk : k = t.args.length := by omega
        subst hkk
        have Hnp : Hid (plNoPart p t = false) := hid (by have := hany.out; rwa [List.take_length] at this)
        have h0 := HZ.out wr Hbw.out
        obtain ⟨z0, z1, y0, y1, y2, y3, y4⟩ := h0
        clear hany
        go_wp2_with fail
        refine (Hcn.out _ (bel_go Hbw.out HBw.out) hlo hhi Hns.out).mono ?_
        rintro e w5 ⟨rfl, b5⟩
        clear z0 z1 y0 y1 y2 y3 y4
        have Hb5 := hid (bel_go b5 Hbw.out)
        have h0 := HZ.out w5 Hb5.out
        obtain ⟨z0, z1, y0, y1, y2, y3, y4⟩ := h0
        have hbc := badCount_eq p t
        generalize plLeast p t = lst at *
        generalize plMost p t = mst at *
        clear b5 Hb Hbw
        cases e1 : decide ((t.args.length : Int) < lst)
        case true =>
          have He := hid (show r = 9 by rw [Hrr.out]; exact wrong_count Hbf.out Hns.out Hnp.out (by rw [hbc, e1]; rfl))
          clear hbc z0 z1 y0 y2 y3 y4
          go_wp2
          go_ret
          exact ⟨by rw [He.out]; rfl, bel_go Hb5.out HBw.out⟩
        case false =>
        cases e2 : decide (mst < (t.args.length : Int))
        case true =>
          have He := hid (show r = 9 by rw [Hrr.out]; exact wrong_count Hbf.out Hns.out Hnp.out (by rw [hbc, e1, e2]; rfl))
          clear hbc z0 z1 y0 y2 y3 y4
          go_wp2
          go_ret
          exact ⟨by rw [He.out]; rfl, bel_go Hb5.out HBw.out⟩
        case false =>
        have Hbc := hid (show plBadCount p t = false by rw [hbc, e1, e2]; rfl)
        clear hbc
        go_upto_region 16 with fail
        clear z0 z1 y0 y2 y3 y4 e1 e2
        go_wp2_with fail
        clear y1
        go_loopw [98] (fun i wr => ∃ k : Nat, k ≤ t.args.length ∧ i = .int .i64 (k : Nat) ∧ Hid (∀ i (hi : i < t.args.length), i < k → plBadAt p t i t.args[i] = false) ∧ Hid (Below w5.heap.size w5 wr)) (fun i _ => t.args.length - (intOf i).toNat)
        case atStart => exact ⟨0, Nat.zero_le _, rfl, hid (fun i _ h => absurd h (by omega)), hid (Below.refl _ _)⟩
        case round =>
          obtain ⟨k, hk, rfl, Hbad, Hb⟩ := hrel
          have Hbw := hid (bel_go Hb.out Hb5.out)
          by_cases hlt : k < t.args.length
          · have hlt' : (k : Int) < (t.args.length : Nat) := by omega
            obtain ⟨_, _, e, i1, i2, i3, i4⟩ := hargs
            cases e
            obtain ⟨bb, off, rfl, o1, o2⟩ := i4 (by omega)
            have m1 := ((bel_go Hbw.out HBw.out).cell (p := ⟨bb, off + k, none⟩) o1).trans (o2 k hlt)
            have hxm : ∃ m : Nat, t.args[k] = (m : Nat) ∧ m < p.terms.length := part_in Hnp.out k hlt
            obtain ⟨m, hxm, hm⟩ := hxm
            rw [hxm] at m1
            have Hxm := hid hxm
            have Hwe := hid (want_eq p t k hlo hhi Hbc.out hlt)
            unfold maxLen at i2
            clear hxm i3
            obtain ⟨n3, n13, n4⟩ := Nx.out
            by_cases hw2 : t.op = 10 ∨ t.op = 11 ∨ t.op = 12
            · clear o2 i4
              have hwant : rfWant p t k = 2 := by unfold rfWant; rw [if_pos (by omega)]
              have Hwant := hid hwant
              clear hwant n3 n13 n4
              rcases hw2 with h | h | h
              · have g10 : (t.op == 10) = true := by simp; omega
                clear h
                have h0 := (HZ.out wr Hbw.out)
                obtain ⟨z0, z1, y0, y1, y2, y3, y4⟩ := h0
                go_upto_region 30 with fail
                clear y0 y1 y2 y3 y4
                go_wp2_with fail
                refine (Hso.out m _ (bel_go Hbw.out HBw.out) hm).mono ?_
                rintro e w6 ⟨rfl, b6⟩
                have HW6 := hid (bel_go b6 Hbw.out)
                have HB6 := hid (Hb.out.trans (b6.mono Hb.out.size))
                clear z0 z1 b6
                cases hne : (plSortAt p (m : Nat) != 2)
                · go_wp2_with fail
                  go_roundw
                  case rel =>
                    refine ⟨k + 1, by omega, rfl, hid fun i hi hik => ?_, HB6⟩
                    by_cases hie : i = k
                    · subst hie
                      unfold plBadAt
                      rw [Hwe.out, Hxm.out, Hwant.out]
                      exact hne
                    · exact Hbad.out i hi (by omega)
                  case measure => simp [intOf]; omega
                · have He := hid (show r = 8 by
                    rw [Hrr.out]
                    exact wrong_sort Hbf.out Hns.out Hnp.out Hbc.out (badSort_of p t k hlt (by unfold plBadAt; rw [Hwe.out, Hxm.out, Hwant.out]; exact hne)))
                  go_wp2_with fail
                  go_ret
                  exact ⟨by rw [He.out]; rfl, bel_go HW6.out HBw.out⟩
              · have g10 : (t.op == 10) = false := by simp; omega
                have g11 : (t.op == 11) = true := by simp; omega
                clear h
                have h0 := (HZ.out wr Hbw.out)
                obtain ⟨z0, z1, y0, y1, y2, y3, y4⟩ := h0
                go_upto_region 30 with fail
                clear y0 y1 y2 y3 y4
                go_wp2_with fail
                refine (Hso.out m _ (bel_go Hbw.out HBw.out) hm).mono ?_
                rintro e w6 ⟨rfl, b6⟩
                have HW6 := hid (bel_go b6 Hbw.out)
                have HB6 := hid (Hb.out.trans (b6.mono Hb.out.size))
                clear z0 z1 b6
                cases hne : (plSortAt p (m : Nat) != 2)
                · go_wp2_with fail
                  go_roundw
                  case rel =>
                    refine ⟨k + 1, by omega, rfl, hid fun i hi hik => ?_, HB6⟩
                    by_cases hie : i = k
                    · subst hie
                      unfold plBadAt
                      rw [Hwe.out, Hxm.out, Hwant.out]
                      exact hne
                    · exact Hbad.out i hi (by omega)
                  case measure => simp [intOf]; omega
                · have He := hid (show r = 8 by
                    rw [Hrr.out]
                    exact wrong_sort Hbf.out Hns.out Hnp.out Hbc.out (badSort_of p t k hlt (by unfold plBadAt; rw [Hwe.out, Hxm.out, Hwant.out]; exact hne)))
                  go_wp2_with fail
                  go_ret
                  exact ⟨by rw [He.out]; rfl, bel_go HW6.out HBw.out⟩
              · have g10 : (t.op == 10) = false := by simp; omega
                have g11 : (t.op == 11) = false := by simp; omega
                have g12 : (t.op == 12) = true := by simp; omega
                clear h
                have h0 := (HZ.out wr Hbw.out)
                obtain ⟨z0, z1, y0, y1, y2, y3, y4⟩ := h0
                go_upto_region 30 with fail
                clear y0 y1 y2 y3 y4
                go_wp2_with fail
                refine (Hso.out m _ (bel_go Hbw.out HBw.out) hm).mono ?_
                rintro e w6 ⟨rfl, b6⟩
                have HW6 := hid (bel_go b6 Hbw.out)
                have HB6 := hid (Hb.out.trans (b6.mono Hb.out.size))
                clear z0 z1 b6
                cases hne : (plSortAt p (m : Nat) != 2)
                · go_wp2_with fail
                  go_roundw
                  case rel =>
                    refine ⟨k + 1, by omega, rfl, hid fun i hi hik => ?_, HB6⟩
                    by_cases hie : i = k
                    · subst hie
                      unfold plBadAt
                      rw [Hwe.out, Hxm.out, Hwant.out]
                      exact hne
                    · exact Hbad.out i hi (by omega)
                  case measure => simp [intOf]; omega
                · have He := hid (show r = 8 by
                    rw [Hrr.out]
                    exact wrong_sort Hbf.out Hns.out Hnp.out Hbc.out (badSort_of p t k hlt (by unfold plBadAt; rw [Hwe.out, Hxm.out, Hwant.out]; exact hne)))
                  go_wp2_with fail
                  go_ret
                  exact ⟨by rw [He.out]; rfl, bel_go HW6.out HBw.out⟩
            · have g10 : (t.op == 10) = false := by simp; omega
              have g11 : (t.op == 11) = false := by simp; omega
              have g12 : (t.op == 12) = false := by simp; omega
              by_cases h9 : t.op = 9
              · have g9 : (t.op == 9) = true := by simp; omega
                by_cases hk0 : 0 < k
                · have hl1 : 1 < t.args.length := by omega
                  obtain ⟨j, hj1, hj⟩ := part_in Hnp.out 1 hl1
                  have n1 := ((bel_go Hbw.out HBw.out).cell (p := ⟨bb, off + 1, none⟩) o1).trans (o2 1 hl1)
                  rw [hj1] at n1
                  have hwant : rfWant p t k = plSortAt p (j : Nat) := by unfold rfWant; rw [if_neg (by omega), if_pos ⟨h9, hk0⟩, List.getElem?_eq_getElem hl1, hj1]; rfl
                  have Hwant := hid hwant
                  have hk0' : (0 : Int) < (k : Nat) := by omega
                  have hl1' : (1 : Int) < (t.args.length : Nat) := by omega
                  have HN1 := hid n1
                  have h0 := (HZ.out wr Hbw.out)
                  obtain ⟨z0, z1, y0, y1, y2, y3, y4⟩ := h0
                  clear hwant h9 hw2 o2 i4 n1 hj1 n3 n13 n4
                  go_upto_region 29 with fail
                  have HS : Hid (∀ w', Below wr.heap.size wr w' → (w'.cell? ⟨w.heap.size, 0, none⟩ = some (.slice pa p.syms.length ca) ∧ w'.cell? ⟨w.heap.size, 1, none⟩ = some (.slice pb p.terms.length cb) ∧ w'.cell? ⟨w.heap.size + 1, 0, none⟩ = some (.int .i64 t.op) ∧ w'.cell? ⟨w.heap.size + 1, 1, none⟩ = some (.slice (some ⟨bb, off, none⟩) t.args.length cc) ∧ w'.cell? ⟨w.heap.size + 1, 2, none⟩ = some (.bool b) ∧ w'.cell? ⟨w.heap.size + 1, 3, none⟩ = some (.slice pm nm cm) ∧ w'.cell? ⟨w.heap.size + 1, 4, none⟩ = some (.int .i64 t.sym)) ∧ w'.cell? ⟨bb, off + 1, none⟩ = some (.int .i64 (j : Nat))) := hid fun w' hb => ⟨HZ.out w' (bel_go hb Hbw.out), (hb.cell (p := ⟨bb, off + 1, none⟩) (Nat.lt_of_lt_of_le o1 (bel_go Hbw.out HBw.out).size)).trans HN1.out⟩
                  clear z0 z1 y0 y1 y2 y3 y4 m1
                  refine wp_region_facts (w0 := wr) 7 0 [115, 116, 117, 118, 119, 120, 11] [u115, u116, u117, u118, u119, u120, .int .i64 1]
                    (fun i => match i with | 0 => eqD (.agg #[.slice pa p.syms.length ca, .slice pb p.terms.length cb]) | 1 => eqD (.pointer (some ⟨w.heap.size + 1, 1, none⟩)) | 2 => eqD (.slice (some ⟨bb, off, none⟩) t.args.length cc) | 3 => eqD (.pointer (some ⟨bb, off + 1, none⟩)) | 4 => eqD (.int .i64 (j : Nat)) | 5 => eqD (.int .i64 (plSortAt p (j : Nat))) | _ => eqD (.int .i64 (plSortAt p (j : Nat)))) [] (by kernel_rfl) (by kernel_rfl) (by kernel_rfl) (by kernel_rfl) (by decide) rfl (by kernel_rfl) rfl (by simp) ?he1 ?_ ?_ ?_
                  case he1 => simp only [putAll, Act.put, List.setIfInBounds_toArray, List.set_cons_zero, List.set_cons_succ]
                  · intro i hi; simp at hi
                  · intro i o hi ho vs wx hvl hb hdep K hK
                    have hvs := vlen7 hvl
                    obtain ⟨s115, s116, s117, s118, s119, s120, s11, rfl⟩ := hvs
                    clear hvl
                    have hk := HS.out wx hb
                    go_split_ands
                    rcases i with _ | _ | _ | _ | _ | _ | _ | i
                    all_goals (simp only [List.getElem?_toArray, List.getElem?_cons_zero, List.getElem?_cons_succ, Option.some.injEq] at ho)
                    all_goals try (subst ho)
                    all_goals try simp only [putAll, Act.put, List.setIfInBounds_toArray, List.set_cons_zero, List.set_cons_succ]
                    · go_simp
                      have hK' := hK.out
                      simp only [putAll, Act.put, List.setIfInBounds_toArray, List.set_cons_zero, List.set_cons_succ] at hK'
                      exact hK' _ _ rfl (Below.refl _ _) (by simp)
                    · go_simp
                      have hK' := hK.out
                      simp only [putAll, Act.put, List.setIfInBounds_toArray, List.set_cons_zero, List.set_cons_succ] at hK'
                      exact hK' _ _ rfl (Below.refl _ _) (by simp)
                    · have e1 : s116 = _ := hdep ⟨1, .data⟩ (by simp) rfl
                      have e1 := e1.symm
                      subst e1
                      go_simp
                      have hK' := hK.out
                      simp only [putAll, Act.put, List.setIfInBounds_toArray, List.set_cons_zero, List.set_cons_succ] at hK'
                      exact hK' _ _ rfl (Below.refl _ _) (by simp)
                    · have e2 : s117 = _ := hdep ⟨2, .data⟩ (by simp) rfl
                      have e2 := e2.symm
                      subst e2
                      go_simp
                      have hK' := hK.out
                      simp only [putAll, Act.put, List.setIfInBounds_toArray, List.set_cons_zero, List.set_cons_succ] at hK'
                      exact hK' _ _ rfl (Below.refl _ _) (by simp)
                    · have e3 : s118 = _ := hdep ⟨3, .data⟩ (by simp) rfl
                      have e3 := e3.symm
                      subst e3
                      go_simp
                      have hK' := hK.out
                      simp only [putAll, Act.put, List.setIfInBounds_toArray, List.set_cons_zero, List.set_cons_succ] at hK'
                      exact hK' _ _ rfl (Below.refl _ _) (by simp)
                    · have e0 : s115 = _ := hdep ⟨0, .data⟩ (by simp) rfl
                      have e0 := e0.symm
                      subst e0
                      have e4 : s119 = _ := hdep ⟨4, .data⟩ (by simp) rfl
                      have e4 := e4.symm
                      subst e4
                      go_simp
                      go_simp
                      refine (Hso.out j _ (bel_go (bel_go hb Hbw.out) HBw.out) hj).mono ?_
                      rintro e wy ⟨rfl, hby⟩
                      go_wp2_with fail
                      have hK' := hK.out
                      simp only [putAll, Act.put, List.setIfInBounds_toArray, List.set_cons_zero, List.set_cons_succ] at hK'
                      exact hK' _ _ rfl hby (by simp)
                    · have e5 : s120 = _ := hdep ⟨5, .data⟩ (by simp) rfl
                      have e5 := e5.symm
                      subst e5
                      go_simp
                      have hK' := hK.out
                      simp only [putAll, Act.put, List.setIfInBounds_toArray, List.set_cons_zero, List.set_cons_succ] at hK'
                      exact hK' _ _ rfl (Below.refl _ _) (by simp)
                    · omega
                  · intro vs wx hvl hb hf hdist
                    have hvs := vlen7 hvl
                    obtain ⟨s115, s116, s117, s118, s119, s120, s11, rfl⟩ := hvs
                    have f6 : s11 = .int .i64 (plSortAt p (j : Nat)) := hf 6 (by decide)
                    subst f6
                    clear hf hdist hvl
                    refine wpAny_done (by kernel_rfl) ?_ _
                    simp only [putAll, Act.put, List.setIfInBounds_toArray, List.set_cons_zero, List.set_cons_succ]
                    have Hb9 := hid (Hb.out.trans (hb.mono Hb.out.size))
                    have Hbw9 := hid (bel_go hb Hbw.out)
                    clear Hb Hbw HS hb
                    have Hb := Hb9
                    have Hbw := Hbw9
                    clear Hb9 Hbw9
                    generalize hwx : wx = wr at *
                    clear hwx
                    have h0 := (HZ.out wr Hbw.out)
                    obtain ⟨z0, z1, y0, y1, y2, y3, y4⟩ := h0
                    go_upto_region 30 with fail
                    clear y0 y1 y2 y3 y4
                    go_wp2_with fail
                    refine (Hso.out m _ (bel_go Hbw.out HBw.out) hm).mono ?_
                    rintro e w6 ⟨rfl, b6⟩
                    have HW6 := hid (bel_go b6 Hbw.out)
                    have HB6 := hid (Hb.out.trans (b6.mono Hb.out.size))
                    clear z0 z1 b6
                    cases hne : (plSortAt p (m : Nat) != plSortAt p (j : Nat))
                    · go_wp2_with fail
                      go_roundw
                      case rel =>
                        refine ⟨k + 1, by omega, rfl, hid fun i hi hik => ?_, HB6⟩
                        by_cases hie : i = k
                        · subst hie
                          unfold plBadAt
                          rw [Hwe.out, Hxm.out, Hwant.out]
                          exact hne
                        · exact Hbad.out i hi (by omega)
                      case measure => simp [intOf]; omega
                    · have He := hid (show r = 8 by
                        rw [Hrr.out]
                        exact wrong_sort Hbf.out Hns.out Hnp.out Hbc.out (badSort_of p t k hlt (by unfold plBadAt; rw [Hwe.out, Hxm.out, Hwant.out]; exact hne)))
                      go_wp2_with fail
                      go_ret
                      exact ⟨by rw [He.out]; rfl, bel_go HW6.out HBw.out⟩
                · have hwant : rfWant p t k = 1 := by unfold rfWant; rw [if_neg (by omega), if_neg (by omega)]
                  have Hwant := hid hwant
                  have hk0' : ¬ (0 : Int) < (k : Nat) := by omega
                  clear hwant h9 hw2 o2 i4 n3 n13 n4
                  have h0 := (HZ.out wr Hbw.out)
                  obtain ⟨z0, z1, y0, y1, y2, y3, y4⟩ := h0
                  go_upto_region 30 with fail
                  clear y0 y1 y2 y3 y4
                  go_wp2_with fail
                  refine (Hso.out m _ (bel_go Hbw.out HBw.out) hm).mono ?_
                  rintro e w6 ⟨rfl, b6⟩
                  have HW6 := hid (bel_go b6 Hbw.out)
                  have HB6 := hid (Hb.out.trans (b6.mono Hb.out.size))
                  clear z0 z1 b6
                  cases hne : (plSortAt p (m : Nat) != 1)
                  · go_wp2_with fail
                    go_roundw
                    case rel =>
                      refine ⟨k + 1, by omega, rfl, hid fun i hi hik => ?_, HB6⟩
                      by_cases hie : i = k
                      · subst hie
                        unfold plBadAt
                        rw [Hwe.out, Hxm.out, Hwant.out]
                        exact hne
                      · exact Hbad.out i hi (by omega)
                    case measure => simp [intOf]; omega
                  · have He := hid (show r = 8 by
                      rw [Hrr.out]
                      exact wrong_sort Hbf.out Hns.out Hnp.out Hbc.out (badSort_of p t k hlt (by unfold plBadAt; rw [Hwe.out, Hxm.out, Hwant.out]; exact hne)))
                    go_wp2_with fail
                    go_ret
                    exact ⟨by rw [He.out]; rfl, bel_go HW6.out HBw.out⟩
              · have g9 : (t.op == 9) = false := by simp; omega
                have hwant : rfWant p t k = 1 := by unfold rfWant; rw [if_neg (by omega), if_neg (by omega)]
                have Hwant := hid hwant
                clear hwant h9 hw2 o2 i4 n3 n13 n4
                have h0 := (HZ.out wr Hbw.out)
                obtain ⟨z0, z1, y0, y1, y2, y3, y4⟩ := h0
                go_upto_region 30 with fail
                clear y0 y1 y2 y3 y4
                go_wp2_with fail
                refine (Hso.out m _ (bel_go Hbw.out HBw.out) hm).mono ?_
                rintro e w6 ⟨rfl, b6⟩
                have HW6 := hid (bel_go b6 Hbw.out)
                have HB6 := hid (Hb.out.trans (b6.mono Hb.out.size))
                clear z0 z1 b6
                cases hne : (plSortAt p (m : Nat) != 1)
                · go_wp2_with fail
                  go_roundw
                  case rel =>
                    refine ⟨k + 1, by omega, rfl, hid fun i hi hik => ?_, HB6⟩
                    by_cases hie : i = k
                    · subst hie
                      unfold plBadAt
                      rw [Hwe.out, Hxm.out, Hwant.out]
                      exact hne
                    · exact Hbad.out i hi (by omega)
                  case measure => simp [intOf]; omega
                · have He := hid (show r = 8 by
                    rw [Hrr.out]
                    exact wrong_sort Hbf.out Hns.out Hnp.out Hbc.out (badSort_of p t k hlt (by unfold plBadAt; rw [Hwe.out, Hxm.out, Hwant.out]; exact hne)))
                  go_wp2_with fail
                  go_ret
                  exact ⟨by rw [He.out]; rfl, bel_go HW6.out HBw.out⟩
          · have hkk : k = t.args.length := by omega
            subst hkk
            have He := hid (show r = 0 by rw [Hrr.out]; exact wrong_none Hbf.out Hns.out Hnp.out Hbc.out (badSort_none p t fun i hi => Hbad.out i hi hi))
            go_wp2_with fail
            go_ret
            exact ⟨by rw [He.out]; rfl, bel_go Hbw.out HBw.out⟩
end Go.Proofs.YtmdkfpidohcafaaDoor
/- elenchusref01.From: what it tells lies in memory of its own (the proof of XFrom, told more of). -/
namespace Go.Proofs.YtmdkfpidohcafaaDoor
open Go.RowKit Big

set_option maxRecDepth 100000 in
set_option maxHeartbeats 3200000 in
theorem From_own (v : Value) (l : List Nat) (w : World) (h : At w .i64 v l) (hs : Small D l) (hlen : l.length ≤ 8796093022208) :
    Calls Tryd.prog 57 #[v] w (ROwn 98 .u64 (dig W (val D l)) w) := by
  have hv0 : val D (strip l) = val D l := by rw [strip_dig D2 hs, val_dig D2]
  have hs' : Small D (strip l) := by rw [strip_dig D2 hs]; exact small_dig D2 _
  have hl' : (strip l).length ≤ 8796093022208 := Nat.le_trans (strip_length l) hlen
  have hlast : strip l = dig D (val D l) := strip_dig D2 hs
  have G := hid (rtrim_any v l w h)
  rw [← hv0] at hlast ⊢
  clear h hlen hs hv0
  generalize strip l = l' at *
  have Hl := hid hlast; clear hlast
  go_enter Tryd.func57, Tryd.ntmps57
  go_wp2_with fail
  refine G.out.mono ?_
  rintro e w' ⟨v', rfl, ⟨p, cap, rfl, a1, a2, a3, a4⟩, rfl⟩
  unfold maxLen at a2
  go_wp2_with fail
  go_loopw [3, 4] (fun o s wr => ∃ (i j : Nat) (L : List Nat), i ≤ l'.length + 3 ∧ Hid (i = 4 * j) ∧ s = .int .i64 (i : Nat) ∧ Own wr w.heap.size 98 .u64 o L ∧ Hid (L.length = j) ∧ j ≤ i ∧ Small W L ∧
      Hid (val W L = val D (l'.take i)) ∧ Below w.heap.size w wr) (fun _ s _ => l'.length + 4 - (intOf s).toNat)
  case atStart => exact ⟨0, 0, [], by omega, rfl, rfl, Own.nil _ _ _ _, rfl, by omega, small_nil _, rfl, Below.refl _ _⟩
  case round =>
    obtain ⟨i, j, L, hi, hij, rfl, hown, hLj, hji, hsl, hv, hbel⟩ := hrel
    by_cases hil : i < l'.length
    · obtain ⟨b, off, rfl, hbb, hcell⟩ := a4 (by omega)
      obtain ⟨x0, hx0⟩ : ∃ x, x = l'[i]?.getD 0 := ⟨_, rfl⟩
      obtain ⟨x1, hx1⟩ : ∃ x, x = l'[i + 1]?.getD 0 := ⟨_, rfl⟩
      obtain ⟨x2, hx2⟩ : ∃ x, x = l'[i + 2]?.getD 0 := ⟨_, rfl⟩
      obtain ⟨x3, hx3⟩ : ∃ x, x = l'[i + 3]?.getD 0 := ⟨_, rfl⟩
      have y0 : x0 < 65536 := by rw [hx0]; exact small_getD hs' (by decide) _
      have y1 : x1 < 65536 := by rw [hx1]; exact small_getD hs' (by decide) _
      have y2 : x2 < 65536 := by rw [hx2]; exact small_getD hs' (by decide) _
      have y3 : x3 < 65536 := by rw [hx3]; exact small_getD hs' (by decide) _
      have cell : ∀ m, i + m < l'.length → wr.cell? ⟨b, off + (i + m), none⟩ = some (.int .i64 (l'[i + m]?.getD 0 : Nat)) := fun m hm => by
        rw [(hbel.cell (p := ⟨b, off + (i + m), none⟩) hbb).trans (hcell (i + m) hm)]; simp [hm]
      have zero : ∀ m, ¬ i + m < l'.length → l'[i + m]?.getD 0 = 0 := fun m hm => by rw [List.getElem?_eq_none (by omega)]; rfl
      have Cell := hid cell
      have Zero := hid zero
      have Hx0 := hid hx0; have Hx1 := hid hx1; have Hx2 := hid hx2; have Hx3 := hid hx3
      clear cell zero hx0 hx1 hx2 hx3 hcell a4
      go_wp2_with fail
      obtain ⟨wo, rfl⟩ : ∃ wo : World, wo = wr := ⟨_, rfl⟩
      go_loopw [5, 6] (fun a s wq => ∃ m : Nat, m ≤ 4 ∧ s = .int .i64 ((m : Int) - 1) ∧ a = .int .u64 (acc x0 x1 x2 x3 m : Nat) ∧ wq = wo) (fun _ s _ => (intOf s + 1).toNat)
      case atStart => exact ⟨4, by omega, rfl, rfl, rfl⟩
      case round =>
        obtain ⟨m, hm, rfl, rfl, rfl⟩ := hrel
        by_cases hm0 : 0 < m
        · rcases (by omega : m = 4 ∨ m = 3 ∨ m = 2 ∨ m = 1) with rfl | rfl | rfl | rfl
          · by_cases hin : i + 3 < l'.length
            · skip
              have c := Cell.out 3 hin
              rw [← Hx3.out] at c
              simp only [acc]
              go_wp2
              go_roundw
              case rel => exact ⟨3, by omega, rfl, num_eq (by first | rfl | omega | (simp only; omega)), by trivial⟩
              case measure => simp [intOf]
            · skip
              have hz : x3 = 0 := by rw [Hx3.out]; exact Zero.out 3 hin
              have Hz := hid hz
              clear hz
              simp only [acc]
              go_wp2
              go_roundw
              case rel => exact ⟨3, by omega, rfl, num_eq (by have := Hz.out; first | omega | (simp only; omega)), by trivial⟩
              case measure => simp [intOf]
          · by_cases hin : i + 2 < l'.length
            · skip
              have c := Cell.out 2 hin
              rw [← Hx2.out] at c
              simp only [acc]
              go_wp2
              go_roundw
              case rel => exact ⟨2, by omega, rfl, num_eq (by first | rfl | omega | (simp only; omega)), by trivial⟩
              case measure => simp [intOf]
            · skip
              have hz : x2 = 0 := by rw [Hx2.out]; exact Zero.out 2 hin
              have Hz := hid hz
              clear hz
              simp only [acc]
              go_wp2
              go_roundw
              case rel => exact ⟨2, by omega, rfl, num_eq (by have := Hz.out; first | omega | (simp only; omega)), by trivial⟩
              case measure => simp [intOf]
          · by_cases hin : i + 1 < l'.length
            · skip
              have c := Cell.out 1 hin
              rw [← Hx1.out] at c
              simp only [acc]
              go_wp2
              go_roundw
              case rel => exact ⟨1, by omega, rfl, num_eq (by first | rfl | omega | (simp only; omega)), by trivial⟩
              case measure => simp [intOf]
            · skip
              have hz : x1 = 0 := by rw [Hx1.out]; exact Zero.out 1 hin
              have Hz := hid hz
              clear hz
              simp only [acc]
              go_wp2
              go_roundw
              case rel => exact ⟨1, by omega, rfl, num_eq (by have := Hz.out; first | omega | (simp only; omega)), by trivial⟩
              case measure => simp [intOf]
          · by_cases hin : i + 0 < l'.length
            · skip
              have c := Cell.out 0 hin
              simp only [Nat.add_zero] at c
              rw [← Hx0.out] at c
              simp only [acc]
              go_wp2
              go_roundw
              case rel => exact ⟨0, by omega, rfl, num_eq (by first | rfl | omega | (simp only; omega)), by trivial⟩
              case measure => simp [intOf]
            · exact absurd hil (by simpa using hin)
        · obtain rfl : m = 0 := by omega
          simp only [acc]
          go_wp2_with (at_builtin; refine wpList_append_at rfl _ _ 35 rfl elemNat w.heap.size _ L rfl (hown.alloc _) _ [((x3 * 65536 + x2) * 65536 + x1) * 65536 + x0] rfl (At.oneI _ _ _ _ _ (by omega)) (by rw [hLj.out]; simp [maxLen]; omega) (by rw [hLj.out]; simp; omega) (by have := hbel.size; simp; omega) ?_; intro v2 w2 ho2 hb2 hs2)
          go_roundw
          case rel => exact ⟨i + 4, j + 1, L ++ [((x3 * 65536 + x2) * 65536 + x1) * 65536 + x0], by omega, by have := hij.out; unfold Hid; omega, by go_num, ho2, by have := hLj.out; unfold Hid; simp; omega, by omega,
            small_snoc hsl (by unfold W; omega), from_step hij.out hLj.out hv.out Hx0.out Hx1.out Hx2.out Hx3.out, (hbel.trans ((below1 _ _).mono hbel.size)).trans hb2⟩
          case measure => simp [intOf]; omega
    · have hv' : Hid (L = dig W (val D l')) := by
        have e := hv.out
        rw [val_take_ge _ _ _ (by omega)] at e
        unfold Hid
        rw [← e]
        refine canon W2 hsl ?_
        by_cases hj0 : j = 0
        · left; exact List.eq_nil_of_length_eq_zero (by rw [hLj.out, hj0])
        · right
          have hne : l' ≠ [] := by
            intro h0; have := hij.out; rw [h0] at hi; simp at hi; omega
          have hlen : l'.length = sz D (val D l') := by unfold sz; rw [← Hl.out]
          have hpos : 0 < val D l' := Nat.pos_of_ne_zero fun e0 => by
            have := Hl.out; rw [e0] at this; exact hne this
          have hp := pow_sz_le D2 hpos
          rw [← hlen] at hp
          rw [e, hLj.out]
          refine Nat.le_trans ?_ hp
          rw [show W ^ (j - 1) = D ^ (4 * (j - 1)) by rw [Nat.pow_mul]; rfl]
          exact Nat.pow_le_pow_right (by decide) (by have := hij.out; omega)
      clear a4 hij hv Hl
      go_wp2
      go_ret
      exact ⟨_, rfl, by rw [← hv'.out]; exact hown, hbel⟩
end Go.Proofs.YtmdkfpidohcafaaDoor
/- elenchusref01.Whole: what it tells lies in memory of its own. -/
namespace Go.Proofs.YtmdkfpidohcafaaDoor
open Go.RowKit Big

theorem IntOwn.whole {w : World} {B : Nat} {neg : Bool} {n : Nat} {p : Option Addr} {len c : Nat} (h : Own w B 98 .u64 (.slice p len c) (dig W n)) :
    IntOwn w B (.agg #[.bool (neg && decide (0 < len)), .slice p len c]) (sg neg n) := by
  have h2 := IntAt.whole (neg := neg) h.at
  obtain ⟨s, e, -⟩ := h2
  injection e with e
  simp only [Array.mk.injEq, List.cons.injEq, and_true] at e
  obtain ⟨e1, e2⟩ := e
  refine ⟨.slice p len c, by rw [e1], by rw [sg_natAbs]; exact h⟩
set_option maxHeartbeats 800000 in
theorem Whole_own (neg : Bool) (v : Value) (l : List Nat) (w : World) (h : At w .u64 v l) (hs : Small W l) (hlen : l.length ≤ 2199023255552) :
    Calls Tryd.prog 36 #[.bool neg, v] w fun e w' => ∃ v', e = .returned v' ∧ IntOwn w' w.heap.size v' (sg neg (val W l)) ∧ Below w.heap.size w w' := by
  have hd : ∀ o, Calls Tryd.prog 58 #[v] (w.alloc o) (RAt .i64 (dig D (val W l)) (w.alloc o)) := fun o => Digits_any v l _ (h.alloc o) hs hlen
  have hsz : (dig D (val W l)).length ≤ 8796093022208 := by
    have h1 := sz4 (val W l)
    have h2 := sz_val W2 hs
    show sz D (val W l) ≤ _
    omega
  have Hd := hid hd
  have Hsz := hid hsz
  clear hd hsz
  generalize val W l = n at *
  go_enter Tryd.func36, Tryd.ntmps36
  go_wp2_with fail
  refine (Hd.out _).mono ?_
  rintro e w1 ⟨v1, rfl, h1, hb1⟩
  go_wp2_with fail
  refine (From_own v1 _ w1 h1 (small_dig D2 n) Hsz.out).mono ?_
  rintro e w2 ⟨v2, rfl, h2, hb2⟩
  rw [val_dig D2] at h2
  have hpr : Pair w2 w.heap.size 37 := Pair.below (Pair.below (Pair.new ..) hb1) hb2
  obtain ⟨_, _, q0, q1, q2, q3⟩ := hpr.cells
  have z1 : w.heap.size + 1 ≤ w1.heap.size := by have := hb1.size; simp at this; omega
  have bw : Below w.heap.size w w2 := ((below1 _ _).trans (hb1.mono (B' := w.heap.size) (by simp))).trans (hb2.mono (B' := w.heap.size) (by omega))
  have h2 := h2.mono (base' := w.heap.size + 1) z1
  obtain ⟨p, c, rfl, -⟩ := h2.at
  have hI := IntOwn.whole (neg := neg) h2
  have HI := hid hI
  clear hb1 hb2 h1 h2 hI
  generalize (dig W n).length = len at *
  cases neg
  · go_wp2
    exact bodyPost_ret (v := .agg #[.bool false, .slice p len c]) (by simp [results, Tryd.results36, go_sem, q0, q1]) rfl
      ⟨_, rfl, IntOwn.mono (IntOwn.stored (show IntOwn w2 _ _ _ from HI.out) (by omega) _ _) (by omega), Below.stored bw (by omega) _ _⟩
  · by_cases h0 : 0 < len
    · have hx : Hid (decide (0 < len) = true) := by unfold Hid; simpa using h0
      go_wp2
      exact bodyPost_ret (v := .agg #[.bool true, .slice p len c]) (by simp [results, Tryd.results36, go_sem, q0, q1]) rfl
        ⟨_, rfl, (by have := HI.out; rw [hx.out] at this; exact (this.stored (by omega) _ _).mono (by omega)), Below.stored bw (by omega) _ _⟩
    · have hx : Hid (decide (0 < len) = false) := by unfold Hid; simpa using h0
      go_wp2
      exact bodyPost_ret (v := .agg #[.bool false, .slice p len c]) (by simp [results, Tryd.results36, go_sem, q0, q1]) rfl
        ⟨_, rfl, (by have := HI.out; rw [hx.out] at this; exact (this.stored (by omega) _ _).mono (by omega)), Below.stored bw (by omega) _ _⟩
end Go.Proofs.YtmdkfpidohcafaaDoor
/- elenchusref04.Same of two terms that are handed in. -/
namespace Go.Proofs.YtmdkfpidohcafaaDoor
open Go.RowKit Big Go.WideMaps

set_option maxRecDepth 100000 in
set_option maxHeartbeats 6400000 in
theorem RefSame_any (a b : Tm) (va vb : Value) (w : World) (ha : TmRaw w va a) (hb : TmRaw w vb b) (sa : sz W a.num.natAbs ≤ 549755813888) (sb : sz W b.num.natAbs ≤ 549755813888) :
    Calls Tryd.prog 15 #[va, vb] w (RBool (decide (a = b)) w) := by
  obtain ⟨pa, ca, ba, pm, nm, cm, rfl, hla, hma⟩ := ha
  obtain ⟨pa', ca', ba', pm', nm', cm', rfl, hlb, hmb⟩ := hb
  have hcmp : ∀ W', Below w.heap.size w W' → Calls Tryd.prog 37 #[.agg #[.bool ba, .slice pm nm cm], .agg #[.bool ba', .slice pm' nm' cm']] W' (RNum .i64 (ord a.num b.num) W') := fun W' h => RCmp_any _ _ _ _ W' (hma.below h) (hmb.below h) sa sb
  have Hcmp := hid hcmp
  have b1 := below1 w (.cells #[.int .i64 a.op, .slice pa a.args.length ca, .bool ba, .slice pm nm cm, .int .i64 a.sym] 39)
  have b2 := below1 (w.alloc (.cells #[.int .i64 a.op, .slice pa a.args.length ca, .bool ba, .slice pm nm cm, .int .i64 a.sym] 39)) (.cells #[.int .i64 b.op, .slice pa' b.args.length ca', .bool ba', .slice pm' nm' cm', .int .i64 b.sym] 39)
  have h1 := (b2.block w.heap.size (by simp)).trans (heap_alloc_new w (.cells #[.int .i64 a.op, .slice pa a.args.length ca, .bool ba, .slice pm nm cm, .int .i64 a.sym] 39))
  have h2 := heap_alloc_new (w.alloc (.cells #[.int .i64 a.op, .slice pa a.args.length ca, .bool ba, .slice pm nm cm, .int .i64 a.sym] 39)) (.cells #[.int .i64 b.op, .slice pa' b.args.length ca', .bool ba', .slice pm' nm' cm', .int .i64 b.sym] 39)
  have hs1 := size_alloc w (.cells #[.int .i64 a.op, .slice pa a.args.length ca, .bool ba, .slice pm nm cm, .int .i64 a.sym] 39)
  have hs2 := size_alloc (w.alloc (.cells #[.int .i64 a.op, .slice pa a.args.length ca, .bool ba, .slice pm nm cm, .int .i64 a.sym] 39)) (.cells #[.int .i64 b.op, .slice pa' b.args.length ca', .bool ba', .slice pm' nm' cm', .int .i64 b.sym] 39)
  rw [hs1] at h2 hs2
  have bw := bel_go b2 b1
  have hr : decide (a = b) = (!(a.op != b.op) && !(a.sym != b.sym) && !((a.args.length : Int) != (b.args.length : Int)) && !(a.num != b.num) && decide (a.args = b.args)) := by
    rw [Bool.eq_iff_iff]
    simp
    constructor
    · rintro rfl; simp
    · rintro ⟨⟨⟨⟨e1, e2⟩, -⟩, e4⟩, e5⟩
      cases a; cases b; simp_all
  have hz : (a.num != b.num) = (ord a.num b.num != 0) := by
    by_cases h : a.num = b.num
    · rw [h, ord_eq]; simp
    · have : ord a.num b.num ≠ 0 := by unfold ord; split <;> (try split) <;> omega
      rw [bne_iff_ne.2 this, bne_iff_ne.2 h]
  rw [hz] at hr
  generalize decide (a = b) = r at *
  have Hr := hid hr
  clear hr hz hcmp sa sb hma hmb b1 b2
  go_enter Tryd.func15, Tryd.ntmps15
  go_upto_region 1 with fail
  generalize hW : ((w.alloc (.cells #[.int .i64 a.op, .slice pa a.args.length ca, .bool ba, .slice pm nm cm, .int .i64 a.sym] 39)).alloc (.cells #[.int .i64 b.op, .slice pa' b.args.length ca', .bool ba', .slice pm' nm' cm', .int .i64 b.sym] 39)) = W2 at *
  clear hW hs1
  have Hx := hid (five_cells h1)
  have Hy := hid (five_cells h2)
  obtain ⟨x0, x1, x2, x3, x4⟩ := Hx.out
  obtain ⟨y0, y1, y2, y3, y4⟩ := Hy.out
  clear h1 h2
  obtain ⟨_, _, e, i1, i2, i3, i4⟩ := hla
  cases e
  obtain ⟨_, _, e, k1, k2, k3, k4⟩ := hlb
  cases e
  have Hi := hid i4; have Hk := hid k4
  unfold maxLen at i2 k2
  clear i4 k4 i3 k3
  generalize ord a.num b.num = od at *
  cases e1 : (a.op != b.op)
  case true => (have hr0 : r = false := by rw [Hr.out, e1]; rfl); subst hr0; clear Hr; go_wp2; go_ret; exact ⟨rfl, bw⟩
  cases e2 : (a.sym != b.sym)
  case true => (have hr0 : r = false := by rw [Hr.out, e1, e2]; rfl); subst hr0; clear Hr; go_wp2; go_ret; exact ⟨rfl, bw⟩
  cases e3 : ((a.args.length : Int) != (b.args.length : Int))
  case true => (have hr0 : r = false := by rw [Hr.out, e1, e2, e3]; rfl); subst hr0; clear Hr; go_wp2; go_ret; exact ⟨rfl, bw⟩
  have hlen : a.args.length = b.args.length := by simp at e3; omega
  cases e4 : (od != 0)
  case true =>
    have hr0 : r = false := by rw [Hr.out, e1, e2, e3, e4]; rfl
    subst hr0
    clear Hr
    go_wp2_with (refine (Hcmp.out _ bw).mono ?_; rintro e w4 ⟨rfl, b4⟩)
    go_ret
    exact ⟨rfl, bel_go b4 bw⟩
  have hr1 : r = decide (a.args = b.args) := by rw [Hr.out, e1, e2, e3, e4]; rfl
  have Hr1 := hid hr1
  clear Hr hr1
  go_wp2_with (first | (go_at_call 37; refine (Hcmp.out _ bw).mono ?_; rintro e w4 ⟨rfl, b4⟩; have x1 := (b4.cell (p := ⟨w.heap.size, 1, none⟩) (by dsimp only; omega)).trans x1))
  have Hb4 := hid b4
  have hz4 := b4.size
  clear b4 x0 x2 x3 x4 y0 y1 y2 y3 y4 x1 e1 e2 e3 e4 Hcmp
  go_loopw [38] (fun i wr => ∃ k : Nat, k ≤ a.args.length ∧ i = .int .i64 (k : Nat) ∧ Hid (a.args.take k = b.args.take k) ∧ Hid (Below w4.heap.size w4 wr)) (fun i _ => a.args.length - (intOf i).toNat)
  case atStart => exact ⟨0, Nat.zero_le _, rfl, hid (by simp), hid (Below.refl _ _)⟩
  case round =>
    obtain ⟨k, hk, rfl, htk, Hb⟩ := hrel
    have hb2 : Below W2.heap.size W2 wr := Hb4.out.trans (Hb.out.mono hz4)
    have hbw : Below w.heap.size w wr := bel_go hb2 bw
    by_cases hlt : k < a.args.length
    · have hlt' : (k : Int) < (a.args.length : Nat) := by omega
      have hltb : k < b.args.length := by omega
      obtain ⟨-, x1, -, -, -⟩ := Hx.out
      obtain ⟨-, y1, -, -, -⟩ := Hy.out
      have x1 := (hb2.cell (p := ⟨w.heap.size, 1, none⟩) (by dsimp only; omega)).trans x1
      have y1 := (hb2.cell (p := ⟨w.heap.size + 1, 1, none⟩) (by dsimp only; omega)).trans y1
      obtain ⟨bb, off, rfl, j1, j2⟩ := Hi.out (by omega)
      obtain ⟨bc, off', rfl, o1, o2⟩ := Hk.out (by omega)
      have m1 := (hbw.cell (p := ⟨bb, off + k, none⟩) j1).trans (j2 k hlt)
      have m2 := (hbw.cell (p := ⟨bc, off' + k, none⟩) o1).trans (o2 k hltb)
      have hnx : (a.args[k] != b.args[k]) = false → a.args.take (k + 1) = b.args.take (k + 1) := fun h => by
        rw [List.take_succ_eq_append_getElem hlt, List.take_succ_eq_append_getElem hltb, htk.out, show a.args[k] = b.args[k] by simpa using h]
      have hno : (a.args[k] != b.args[k]) = true → r = false := fun h => by
        rw [Hr1.out]
        simp at h ⊢
        intro e
        exact h (by simp [e])
      have Hnx := hid hnx; have Hno := hid hno
      clear hnx hno j2 o2 Hi Hk Hx Hy htk
      generalize a.args[k] = p1 at *
      generalize b.args[k] = p2 at *
      cases hpp : (p1 != p2)
      · go_wp2_with fail
        go_quiet (fail)
        go_wp2
        go_roundw
        case rel => exact ⟨k + 1, by omega, rfl, hid (Hnx.out (by trivial)), hid (below_drewN Hb.out _)⟩
        case measure => simp [intOf]; omega
      · go_wp2_with fail
        go_quiet (fail)
        go_wp2
        go_ret
        exact ⟨by rw [Hno.out (by trivial)]; rfl, below_drewN hbw _⟩
    · have hkk : k = a.args.length := by omega
      subst hkk
      have he : r = true := by
        rw [Hr1.out]
        have := htk.out
        rw [List.take_length, hlen, List.take_length] at this
        simpa using this
      subst he
      clear Hr1 htk Hi Hk Hx Hy
      go_wp2_with fail
      go_ret
      exact ⟨rfl, hbw⟩
end Go.Proofs.YtmdkfpidohcafaaDoor
/- elenchusref04.Find; rows that the reference has made. -/
namespace Go.Proofs.YtmdkfpidohcafaaDoor
open Go.RowKit Big Go.WideMaps

theorem findIdx_step (l : List Tm) (t : Tm) (k : Nat) (h : k < l.length) (hn : plFind (l.take k) t = none) : (l[k] = t → plFind l t = some k) ∧ (l[k] ≠ t → plFind (l.take (k + 1)) t = none) := by
  have hn' : ∀ x ∈ l.take k, x ≠ t := by
    unfold plFind at hn
    rw [List.findIdx?_eq_none_iff] at hn
    intro x hx e
    have := hn x hx
    simp [e] at this
  refine ⟨fun e => ?_, fun e => ?_⟩
  · unfold plFind
    rw [List.findIdx?_eq_some_iff_getElem]
    refine ⟨h, by simp [e], fun j hj => ?_⟩
    have : l[j] ∈ l.take k := by
      rw [List.mem_take_iff_getElem]
      exact ⟨j, by omega, rfl⟩
    simpa using hn' _ this
  · unfold plFind
    rw [List.findIdx?_eq_none_iff]
    intro x hx
    rw [List.take_succ_eq_append_getElem h] at hx
    rcases List.mem_append.1 hx with hx | hx
    · simpa using hn' x hx
    · simp at hx; subst hx; simpa using e
def rfFound (l : List Tm) (t : Tm) : Int := match plFind l t with | some k => (k : Nat) | none => -1
set_option maxRecDepth 100000 in
set_option maxHeartbeats 12800000 in
theorem Find_any (s : List Sy) (l : List Tm) (t : Tm) (v vt : Value) (w : World) (hr : RwIn w v s l) (ht : TmRaw w vt t) (hst : sz W t.num.natAbs ≤ 549755813888) (hsl : ∀ x ∈ l, sz W x.num.natAbs ≤ 549755813888) :
    Calls Tryd.prog 35 #[v, vt] w (RNum .i64 (rfFound l t) w) := by
  have Ht := hid ht
  have Hsl := hid hsl
  obtain ⟨va, vb, rfl, hs', ht'⟩ := hr
  have Htl := hid ht'
  obtain ⟨pa, ca, rfl, -, -, -, -⟩ := hs'
  obtain ⟨pb, cb, rfl, b1, b2, -, -⟩ := ht'
  obtain ⟨pc, cc, b, pm, nm, cm, rfl, -, -⟩ := ht
  have bx := below1 w (.cells #[.slice pa s.length ca, .slice pb l.length cb] 27)
  have hx0 := heap_alloc_new w (.cells #[.slice pa s.length ca, .slice pb l.length cb] 27)
  have hz := size_alloc w (.cells #[.slice pa s.length ca, .slice pb l.length cb] 27)
  have by_ := below1 (w.alloc (.cells #[.slice pa s.length ca, .slice pb l.length cb] 27)) (.cells #[.int .i64 t.op, .slice pc t.args.length cc, .bool b, .slice pm nm cm, .int .i64 t.sym] 39)
  have hy0 := heap_alloc_new (w.alloc (.cells #[.slice pa s.length ca, .slice pb l.length cb] 27)) (.cells #[.int .i64 t.op, .slice pc t.args.length cc, .bool b, .slice pm nm cm, .int .i64 t.sym] 39)
  have hz2 := size_alloc (w.alloc (.cells #[.slice pa s.length ca, .slice pb l.length cb] 27)) (.cells #[.int .i64 t.op, .slice pc t.args.length cc, .bool b, .slice pm nm cm, .int .i64 t.sym] 39)
  rw [hz] at hy0 hz2
  have hx1 := (by_.block w.heap.size (by omega)).trans hx0
  have bw := bel_go by_ bx
  clear hsl bx hx0 by_
  unfold maxLen at b2
  go_enter Tryd.func35, Tryd.ntmps35
  go_upto_region 1 with fail
  generalize hW : ((w.alloc (.cells #[.slice pa s.length ca, .slice pb l.length cb] 27)).alloc (.cells #[.int .i64 t.op, .slice pc t.args.length cc, .bool b, .slice pm nm cm, .int .i64 t.sym] 39)) = W2 at *
  clear hW hz
  have HY := hid hy0
  have HBw := hid bw
  obtain ⟨z0, z1, -, -⟩ := two_cells hx1
  clear hx1 hy0 bw
  go_wp2_with fail
  go_loopw [10] (fun i wr => ∃ k : Nat, k ≤ l.length ∧ i = .int .i64 (k : Nat) ∧ Hid (plFind (l.take k) t = none) ∧ Hid (Below W2.heap.size W2 wr)) (fun i _ => l.length - (intOf i).toNat)
  case atStart => exact ⟨0, Nat.zero_le _, rfl, hid rfl, hid (Below.refl _ _)⟩
  case round =>
    obtain ⟨k, hk, rfl, hno, Hb⟩ := hrel
    clear z0 z1
    have Hbw := hid (bel_go Hb.out HBw.out)
    by_cases hlt : k < l.length
    · have hlt' : (k : Int) < (l.length : Nat) := by omega
      obtain ⟨_, _, e5, -, -, -, hc⟩ := Htl.out.below Hbw.out
      cases e5
      obtain ⟨bb, off, rfl, j1, j2⟩ := hc (by omega)
      obtain ⟨c0, c1, c2, c3, c4, m0, m1, m2, m3, m4, hraw⟩ := j2 k hlt
      have hstep := findIdx_step l t k hlt hno.out
      have hsx := Hsl.out l[k] (List.getElem_mem hlt)
      generalize l[k] = x at *
      have Hraw := hid hraw
      obtain ⟨pd, cd, b', pm', nm', cm', ea, -, -⟩ := hraw
      cases ea
      have hsame := fun W (hw : Below wr.heap.size wr W) => RefSame_any x t _ _ W (Hraw.out.below hw) (Ht.out.below (bel_go hw Hbw.out)) hsx hst
      have Hsame := hid hsame
      have Hstep := hid hstep
      have q := five_cells ((Hb.out.block (w.heap.size + 1) (by omega)).trans HY.out)
      obtain ⟨y0, y1, y2, y3, y4⟩ := q
      have bz := below1 wr (.cells #[.int .i64 x.op, .slice pd x.args.length cd, .bool b', .slice pm' nm' cm', .int .i64 x.sym] 39)
      have hsr := Hb.out.size
      have y0 := (bz.cell (p := ⟨w.heap.size + 1, 0, none⟩) (by dsimp only; omega)).trans y0
      have y1 := (bz.cell (p := ⟨w.heap.size + 1, 1, none⟩) (by dsimp only; omega)).trans y1
      have y2 := (bz.cell (p := ⟨w.heap.size + 1, 2, none⟩) (by dsimp only; omega)).trans y2
      have y3 := (bz.cell (p := ⟨w.heap.size + 1, 3, none⟩) (by dsimp only; omega)).trans y3
      have y4 := (bz.cell (p := ⟨w.heap.size + 1, 4, none⟩) (by dsimp only; omega)).trans y4
      clear hc j2 hno hstep hsx hsame Hsl Htl
      go_wp2_with fail
      refine (Hsame.out _ bz).mono ?_
      rintro e w3 ⟨rfl, b3⟩
      have Hb3 := hid (Hb.out.trans ((bel_go b3 bz).mono Hb.out.size))
      clear b3 bz y0 y1 y2 y3 y4
      by_cases hxt : x = t
      · have hd : decide (x = t) = true := by simpa using hxt
        have He := hid (show rfFound l t = (k : Nat) by unfold rfFound; rw [Hstep.out.1 hxt])
        rw [hd]
        clear hxt hd
        go_wp2_with fail
        go_ret
        exact ⟨by rw [He.out]; rfl, bel_go Hb3.out HBw.out⟩
      · have hd : decide (x = t) = false := by simpa using hxt
        have He := hid (Hstep.out.2 hxt)
        rw [hd]
        clear hxt hd
        go_wp2_with fail
        go_roundw
        case rel => exact ⟨k + 1, by omega, rfl, He, Hb3⟩
        case measure => simp [intOf]; omega
    · have hkk : k = l.length := by omega
      subst hkk
      have He := hid (show rfFound l t = -1 by have := hno.out; rw [List.take_length] at this; unfold rfFound; rw [this])
      go_wp2_with fail
      go_ret
      exact ⟨by rw [He.out]; rfl, Hbw.out⟩

/-- a term in a row that the reference has made: its parts' numbers as they came in, its number in memory of its own -/
def RfTm (W0 : World) (B : Nat) (w : World) (t : Tm) (c : List Value) : Prop := ∃ va vn, c = [.int .i64 t.op, va, .bool (decide (t.num < 0)), vn, .int .i64 t.sym] ∧ IAt W0 va t.args ∧ Own w B 98 .u64 vn (dig W t.num.natAbs)
def RfRows (W0 : World) (B : Nat) (w : World) : List Tm → List Value → Prop
  | [], cs => cs = []
  | t :: l, cs => ∃ c r, cs = c ++ r ∧ RfTm W0 B w t c ∧ RfRows W0 B w l r
theorem RfTm.len {W0 w : World} {B : Nat} {t : Tm} {c : List Value} (h : RfTm W0 B w t c) : c.length = 5 := by
  obtain ⟨va, vn, rfl, _⟩ := h; rfl
theorem RfRows.snoc {W0 w : World} {B : Nat} {t : Tm} {c : List Value} : ∀ {l : List Tm} {cs : List Value}, RfRows W0 B w l cs → RfTm W0 B w t c → RfRows W0 B w (l ++ [t]) (cs ++ c)
  | [], _, h, ht => by
    subst h
    exact ⟨c, [], by simp, ht, rfl⟩
  | x :: l, _, ⟨c', r, rfl, hx, hr⟩, ht => ⟨c', r ++ c, by simp, hx, hr.snoc ht⟩
theorem RfRows.at {W0 w : World} {B : Nat} : ∀ {l : List Tm} {cs : List Value}, RfRows W0 B w l cs → ∀ i (h : i < l.length), ∃ c, RfTm W0 B w l[i] c ∧ ∀ j, j < 5 → cs[i * 5 + j]? = c[j]?
  | x :: l, _, ⟨c', r, rfl, hx, hr⟩, 0, _ => ⟨c', hx, fun j hj => by
      rw [Nat.zero_mul, Nat.zero_add, List.getElem?_append_left (by rw [hx.len]; exact hj)]⟩
  | x :: l, _, ⟨c', r, rfl, hx, hr⟩, i + 1, h => by
    obtain ⟨c, hc, hj⟩ := RfRows.at hr i (by simpa using h)
    refine ⟨c, hc, fun j hj' => ?_⟩
    rw [← hj j hj', List.getElem?_append_right (by rw [hx.len]; omega), hx.len]
    congr 1
    omega
/-- such rows stay where words stay -/
theorem RfRows.stays {W0 w w' : World} {B : Nat} (hb : ∀ (k : Nat), (∃ cc : Array Value, w.heap[k]? = some (Obj.cells cc 98 (0, 0))) → w'.heap[k]? = w.heap[k]?) : ∀ {l : List Tm} {cs : List Value}, RfRows W0 B w l cs → RfRows W0 B w' l cs
  | [], _, h => h
  | _ :: _, _, ⟨c', r, e, ⟨va, vn, e2, h1, h2⟩, hr⟩ => ⟨c', r, e, ⟨va, vn, e2, h1, row_stays h2 fun k hk => hb k (row_tag h2 k hk)⟩, hr.stays hb⟩
def RfIn (W0 : World) (B : Nat) (w : World) (v : Value) (l : List Tm) : Prop := ∃ cs, w.ownsRow B 39 5 v l.length cs ∧ RfRows W0 B w l cs
theorem RfIn.stays {W0 w w' : World} {B : Nat} {v : Value} {l : List Tm} (h : RfIn W0 B w v l) (hb : ∀ (k : Nat) (c : Array Value) t, w.heap[k]? = some (Obj.cells c t (0, 0)) → B ≤ k → (t = 98 ∨ v.ownBlock = some k) → w'.heap[k]? = w.heap[k]?) (hw : ∀ (k : Nat) (c : Array Value), w.heap[k]? = some (Obj.cells c 98 (0, 0)) → w'.heap[k]? = w.heap[k]?) : RfIn W0 B w' v l := by
  obtain ⟨cs, h1, h2⟩ := h
  refine ⟨cs, row_stays h1 fun k hk => ?_, h2.stays fun k ⟨cc, hc⟩ => hw k cc hc⟩
  obtain ⟨c, hc⟩ := row_tag h1 k hk
  exact hb k c _ hc (World.ownsRow.lt h1 k hk).1 (.inr hk)
theorem RfIn.below {W0 w w' : World} {B : Nat} {v : Value} {l : List Tm} (h : RfIn W0 B w v l) (hb : Below w.heap.size w w') : RfIn W0 B w' v l := by
  obtain ⟨cs, h1, h2⟩ := h
  exact ⟨cs, ownsRow_later h1 hb, h2.stays fun k ⟨cc, hc⟩ => hb.block k (lt_of_block hc)⟩
theorem RfIn.tms {W0 w : World} {B : Nat} {v : Value} {l : List Tm} (h : RfIn W0 B w v l) (h0 : Below W0.heap.size W0 w) (hs : ∀ t ∈ l, sz W t.num.natAbs ≤ 1099511627776) : TmsIn w v l := by
  obtain ⟨cs, hrow, hr⟩ := h
  obtain ⟨p, cap, rfl, h1, h2, h3, h4⟩ := row_handed (ownsRow_mono hrow (Nat.zero_le _))
  refine ⟨p, cap, rfl, h1, h2, h3, fun hl => ?_⟩
  obtain ⟨b, hp, hb, hc⟩ := h4 hl
  refine ⟨b, 0, hp, hb, fun i hi => ?_⟩
  obtain ⟨c, ⟨va, vn, rfl, k1, k2⟩, hj⟩ := hr.at i hi
  have e0 := hj 0 (by decide); have e1 := hj 1 (by decide); have e2 := hj 2 (by decide); have e3 := hj 3 (by decide); have e4 := hj 4 (by decide)
  refine ⟨_, _, _, _, _, by rw [Nat.zero_add]; exact hc _ _ e0, by rw [Nat.zero_add]; exact hc _ _ e1, by rw [Nat.zero_add]; exact hc _ _ e2, by rw [Nat.zero_add]; exact hc _ _ e3, by rw [Nat.zero_add]; exact hc _ _ e4, ?_⟩
  have k1' := k1.below h0
  obtain ⟨pa, ca, rfl, r1⟩ := id k1'
  have k3 := k2.at
  obtain ⟨pn, cn, rfl, r2⟩ := id k3
  exact ⟨pa, ca, _, pn, _, cn, rfl, k1', IntAt.raw ⟨_, rfl, k3⟩ (hs _ (List.getElem_mem hi))⟩
end Go.Proofs.YtmdkfpidohcafaaDoor
/- elenchusref04.Make. -/
namespace Go.Proofs.YtmdkfpidohcafaaDoor
open Go.RowKit Big Go.WideMaps

theorem PoGood.make {p : Po} {t : Tm} (h : PoGood p) (hw : plWrong p t = 0) (hl : p.terms.length < 4096) : PoGood ⟨p.syms, p.terms ++ [t], p.sorts ++ [plSort p t]⟩ := by
  obtain ⟨h1, h2, h3, h4⟩ := h
  obtain ⟨w1, w2, w3, w4, w5⟩ := plWrong_zero hw
  have hop : 1 ≤ t.op ∧ t.op ≤ 13 := by
    unfold plBadForm at w1
    simp only [Bool.or_eq_false_iff] at w1
    exact plRule_op w1.1.1
  have old : ∀ (j : Nat), j < p.terms.length → plSortAt ⟨p.syms, p.terms ++ [t], p.sorts ++ [plSort p t]⟩ (j : Nat) = plSortAt p (j : Nat) := fun j hj => by
    unfold plSortAt
    simp only [Int.toNat_natCast]
    rw [List.getElem?_append_left (by omega)]
  have srt : ∀ x : Tm, (x.op = 9 → ∃ (h1 : 1 < x.args.length) (j : Nat), x.args[1] = (j : Nat) ∧ j < p.terms.length) → plSort ⟨p.syms, p.terms ++ [t], p.sorts ++ [plSort p t]⟩ x = plSort p x := fun x hx => by
    unfold plSort
    by_cases e4 : x.op = 4
    · rw [if_pos e4, if_pos e4]; rfl
    · rw [if_neg e4, if_neg e4]
      by_cases e9 : x.op = 9
      · rw [if_pos e9, if_pos e9]
        obtain ⟨k1, j, k2, k3⟩ := hx e9
        rw [List.getElem?_eq_getElem k1, k2]
        exact old j k3
      · rw [if_neg e9, if_neg e9]
  refine ⟨by simp [h1], by simp; omega, h3, fun k hk => ?_⟩
  have hk' : k < p.terms.length + 1 := by simpa using hk
  by_cases hkk : k < p.terms.length
  · have e : (p.terms ++ [t])[k]'hk = p.terms[k] := List.getElem_append_left hkk
    show (((p.terms ++ [t])[k]'hk).op = 4 → _) ∧ _
    rw [e]
    obtain ⟨a1, a2, a3, a4, a5⟩ := h4 k hkk
    refine ⟨a1, a2, a3, a4, ?_⟩
    rw [old k hkk, srt _ (fun h => by obtain ⟨k1, j, k2, k3⟩ := a2 h; exact ⟨k1, j, k2, by omega⟩)]
    exact a5
  · have hke : k = p.terms.length := by omega
    have e : (p.terms ++ [t])[k]'hk = t := by subst hke; simp
    show (((p.terms ++ [t])[k]'hk).op = 4 → _) ∧ _
    rw [e]
    have hite := iteIn_of p t w3 w4
    refine ⟨fun h => ?_, fun h => ?_, hop.1, hop.2, ?_⟩
    · unfold plNoSym at w2
      simp [h] at w2
      exact ⟨t.sym.toNat, by omega, by show _ < p.syms.length; omega⟩
    · obtain ⟨k1, j, k2, k3⟩ := hite h
      exact ⟨k1, j, k2, by omega⟩
    · rw [srt t hite]
      unfold plSortAt
      simp only [Int.toNat_natCast]
      rw [hke, List.getElem?_append_right (by omega), h1]
      simp
def RRf (W0 : World) (B : Nat) (vs vr : Value) (r : Po × Int × Int) (w : World) (e : Ending) (w' : World) : Prop := ∃ vr', e = .returned (.tuple #[.agg #[vs, vr'], .int .i64 r.2.1, .int .i64 r.2.2]) ∧ RfIn W0 B w' vr' r.1.terms ∧ Apart (fun k => vr.ownBlock = some k) w w' ∧ (vr'.ownBlock = vr.ownBlock ∨ ∀ k, vr'.ownBlock = some k → w.heap.size ≤ k)
theorem agg5 {c0 c1 c2 c3 c4 d0 d1 d2 d3 d4 : Value} (e : (Value.agg #[c0, c1, c2, c3, c4]) = .agg #[d0, d1, d2, d3, d4]) : c0 = d0 ∧ c1 = d1 ∧ c2 = d2 ∧ c3 = d3 ∧ c4 = d4 := by
  simpa using e
theorem Apart.setNew {S : Nat → Prop} {a w : World} (h : Apart S a w) {q : Addr} (hq : a.heap.size ≤ q.block) (u : Value) : Apart S a (w.setCell q u) :=
  ⟨h.os, h.tape, h.output, by simpa [World.setCell] using h.size, fun k hk hn => (Below.heap_setCell _ _ _ _ (by omega)).trans (h.block k hk hn)⟩
theorem set2_same {w : World} {g : Nat} {a b : Value} {t : TypeId} (h : w.heap[g]? = some (.cells #[a, b] t (0, 0))) (u0 u1 : Value) :
    ((w.setCell ⟨g, 0, none⟩ u0).setCell ⟨g, 1, none⟩ u1).heap[g]? = some (.cells #[u0, u1] t (0, 0)) := by
  have := heap_setCell_same _ g 1 _ _ u1 (heap_setCell_same w g 0 _ _ u0 h)
  simpa using this
theorem RfIn.setFar {W0 w : World} {B : Nat} {v : Value} {l : List Tm} (h : RfIn W0 B w v l) (a : Addr) (u : Value) (c : Array Value) (t : TypeId) (ha : w.heap[a.block]? = some (.cells c t (0, 0))) (ht : t ≠ 98) (hv : v.ownBlock ≠ some a.block) : RfIn W0 B (w.setCell a u) v l :=
  h.stays (fun k c' t' hc _ hk => Below.heap_setCell _ _ _ _ (fun e => by
    rcases hk with rfl | hk
    · exact tag_ne hc (e ▸ ha) (fun e => ht e.symm) rfl
    · rw [e] at hk; exact hv hk)) (fun k c' hc => Below.heap_setCell _ _ _ _ (fun e => tag_ne hc (e ▸ ha) (fun e => ht e.symm) rfl))
theorem frozen_all {w : World} {g : Nat} {c : Array Value} {t : TypeId} (h : w.heap[g]? = some (.cells c t (0, 0))) (j : Nat) : w.frozen? ⟨g, j, none⟩ = false := frozen_of_row w g j _ _ h
set_option maxRecDepth 100000 in
set_option maxHeartbeats 25600000 in
theorem RMake_any (W0 : World) (B : Nat) (p : Po) (hp : PoGood p) (t : Tm) (vs vr vt : Value) (w : World) (h0 : Below W0.heap.size W0 w) (hB : B ≤ w.heap.size) (hs : SyIn W0 vs p.syms) (hr : RfIn W0 B w vr p.terms) (ht : TmRaw W0 vt t)
    (hst : sz W t.num.natAbs ≤ 549755813888) (hsl : ∀ x ∈ p.terms, sz W x.num.natAbs ≤ 549755813888) :
    Calls Tryd.prog 14 #[.agg #[vs, vr], vt] w (RRf W0 B vs vr (plMake p t) w) := by
  have hsl' : ∀ x ∈ p.terms, sz W x.num.natAbs ≤ 1099511627776 := fun x hx => Nat.le_trans (hsl x hx) (by omega)
  have hrw := fun w' (hb : Below w.heap.size w w') => (show RwIn w' (.agg #[vs, vr]) p.syms p.terms from ⟨_, _, rfl, hs.below (bel_go hb h0), (hr.below hb).tms (bel_go hb h0) hsl'⟩)
  have Hct := hid (fun w' hb => CheckTerm_any p hp t _ vt w' (hrw w' hb) (ht.below (bel_go hb h0)))
  have Hfi := hid (fun w' hb => Find_any p.syms p.terms t _ vt w' (hrw w' hb) (ht.below (bel_go hb h0)) hst hsl)
  have Hrf := hid hr
  have H0 := hid h0
  have hlen := hp.2.1
  obtain ⟨pc, cc, b, pm, nm, cm, rfl, hargs, hnum⟩ := ht
  obtain ⟨pa, ca, rfl, -, -, -, -⟩ := hs
  obtain ⟨cs, hrow, hrr⟩ := hr
  obtain ⟨pb, cb, rfl⟩ := ownsRow_shape hrow
  have Hrow := hid hrow; have Hrr := hid hrr
  obtain ⟨neg, sl, ws, eq1, hat, hsm, hwl, hval⟩ := hnum
  have eq2 : neg = b ∧ sl = .slice pm nm cm := by simpa using eq1.symm
  obtain ⟨rfl, rfl⟩ := eq2
  have hwh := fun w' (hb : Below w.heap.size w w') => Whole_own neg _ ws w' (hat.below (bel_go hb h0)) hsm (by omega)
  rw [← hval] at hwh
  have Hwh := hid hwh
  obtain ⟨r, hrd⟩ : ∃ r, r = plMake p t := ⟨_, rfl⟩
  rw [← hrd]
  have Hrd := hid hrd
  obtain ⟨er, her⟩ : ∃ er, er = plWrong p t := ⟨_, rfl⟩
  have Her := hid her
  rw [← her] at Hct
  obtain ⟨fi, hfi⟩ : ∃ fi, fi = rfFound p.terms t := ⟨_, rfl⟩
  have Hfd := hid hfi
  rw [← hfi] at Hfi
  clear hrw hrr hat hwh hval hrd her hfi eq1 h0 hsl hsl'
  have bx := below1 w (.cells #[.slice pa p.syms.length ca, .slice pb p.terms.length cb] 27)
  have hx0 := heap_alloc_new w (.cells #[.slice pa p.syms.length ca, .slice pb p.terms.length cb] 27)
  have hz := size_alloc w (.cells #[.slice pa p.syms.length ca, .slice pb p.terms.length cb] 27)
  have by_ := below1 (w.alloc (.cells #[.slice pa p.syms.length ca, .slice pb p.terms.length cb] 27)) (.cells #[.int .i64 t.op, .slice pc t.args.length cc, .bool neg, .slice pm nm cm, .int .i64 t.sym] 39)
  have hy0 := heap_alloc_new (w.alloc (.cells #[.slice pa p.syms.length ca, .slice pb p.terms.length cb] 27)) (.cells #[.int .i64 t.op, .slice pc t.args.length cc, .bool neg, .slice pm nm cm, .int .i64 t.sym] 39)
  have hz2 := size_alloc (w.alloc (.cells #[.slice pa p.syms.length ca, .slice pb p.terms.length cb] 27)) (.cells #[.int .i64 t.op, .slice pc t.args.length cc, .bool neg, .slice pm nm cm, .int .i64 t.sym] 39)
  rw [hz] at hy0 hz2
  have hx1 := (by_.block w.heap.size (by omega)).trans hx0
  have bw := bel_go by_ bx
  go_enter Tryd.func14, Tryd.ntmps14
  have bz := below1 ((w.alloc (.cells #[.slice pa p.syms.length ca, .slice pb p.terms.length cb] 27)).alloc (.cells #[.int .i64 t.op, .slice pc t.args.length cc, .bool neg, .slice pm nm cm, .int .i64 t.sym] 39)) (.cells #[.slice none 0 0, .slice none 0 0] 27)
  have hr0 := heap_alloc_new ((w.alloc (.cells #[.slice pa p.syms.length ca, .slice pb p.terms.length cb] 27)).alloc (.cells #[.int .i64 t.op, .slice pc t.args.length cc, .bool neg, .slice pm nm cm, .int .i64 t.sym] 39)) (.cells #[.slice none 0 0, .slice none 0 0] 27)
  have hz3 := size_alloc ((w.alloc (.cells #[.slice pa p.syms.length ca, .slice pb p.terms.length cb] 27)).alloc (.cells #[.int .i64 t.op, .slice pc t.args.length cc, .bool neg, .slice pm nm cm, .int .i64 t.sym] 39)) (.cells #[.slice none 0 0, .slice none 0 0] 27)
  rw [hz2] at hr0 hz3
  have hx3 := (bz.block w.heap.size (by omega)).trans hx1
  have hy3 := (bz.block (w.heap.size + 1) (by omega)).trans hy0
  have bw3 := bel_go bz bw
  go_upto_region 1 with fail
  generalize hW : (((w.alloc (.cells #[.slice pa p.syms.length ca, .slice pb p.terms.length cb] 27)).alloc (.cells #[.int .i64 t.op, .slice pc t.args.length cc, .bool neg, .slice pm nm cm, .int .i64 t.sym] 39)).alloc (.cells #[.slice none 0 0, .slice none 0 0] 27)) = W3 at *
  have q := two_cells hx3
  obtain ⟨z0, z1, -, -⟩ := q
  have q := five_cells hy3
  obtain ⟨y0, y1, y2, y3, y4⟩ := q
  have HX := hid hx3; have HY := hid hy3; have HR := hid hr0; have HB3 := hid bw3
  clear hW bx hx0 hz by_ hy0 hz2 hx1 bw bz hr0 hx3 hy3 bw3
  have back : Hid (∀ w', Below W3.heap.size W3 w' → RfIn W0 B w' (.slice pb p.terms.length cb) p.terms) := hid fun w' hb => (Hrf.out.below HB3.out).below hb
  have far : Hid (∀ u, (Value.slice pb p.terms.length cb).ownBlock = some u → u < w.heap.size) := hid fun u hu => (World.ownsRow.lt Hrow.out u hu).2
  go_wp2_with fail
  refine (Hct.out _ HB3.out).mono ?_
  rintro e w4 ⟨rfl, b4⟩
  clear z0 z1 y0 y1 y2 y3 y4
  have HB4 := hid b4
  clear b4
  have hx4 := (HB4.out.block w.heap.size (by omega)).trans HX.out
  have hy4 := (HB4.out.block (w.heap.size + 1) (by omega)).trans HY.out
  have hr4 := (HB4.out.block (w.heap.size + 2) (by omega)).trans HR.out
  have q := two_cells hx4
  obtain ⟨z0, z1, -, -⟩ := q
  have hz4 := HB4.out.size
  cases he : (er != 0)
  case true =>
    have hne : plWrong p t ≠ 0 := by rw [← Her.out]; simpa using he
    have q := two_cells hr4
    obtain ⟨r0, r1, -, -⟩ := q
    have f0 := frozen_all hr4 0; have f1 := frozen_all hr4 1
    have hr5 := set2_same hr4 (.slice pa p.syms.length ca) (.slice pb p.terms.length cb)
    have HR5 := hid hr5
    have hrd := plMake_bad hne
    have Hfin := hid hrd
    have hin4 := back.out w4 HB4.out
    have hin5 := (hin4.setFar ⟨w.heap.size + 2, 0, none⟩ (.slice pa p.syms.length ca) _ _ hr4 (by decide) (fun e => by have := far.out _ e; simp at this; omega))
    have hr45 := heap_setCell_same w4 (w.heap.size + 2) 0 _ _ (.slice pa p.syms.length ca) hr4
    have Hin5 := hid (hin5.setFar ⟨w.heap.size + 2, 1, none⟩ (.slice pb p.terms.length cb) _ _ hr45 (by decide) (fun e => by have := far.out _ e; simp at this; omega))
    have Hb5 := hid (((bel_go HB4.out HB3.out).setCell (p := ⟨w.heap.size + 2, 0, none⟩) (by show w.heap.size ≤ w.heap.size + 2; omega) (.slice pa p.syms.length ca)).setCell (p := ⟨w.heap.size + 2, 1, none⟩) (by show w.heap.size ≤ w.heap.size + 2; omega) (.slice pb p.terms.length cb))
    clear hx4 hy4 hr4 hr5 hrd hin4 hin5 hr45 hne
    go_wp2
    have q := two_cells HR5.out
    obtain ⟨s0, s1, -, -⟩ := q
    refine bodyPost_ret (v := .tuple #[.agg #[.slice pa p.syms.length ca, .slice pb p.terms.length cb], .int .i64 0, .int .i64 er]) (by simp [results, Tryd.results14, go_sem, s0, s1]) rfl ⟨_, ?_, ?_, Apart.of_below Hb5.out, .inl rfl⟩
    · rw [Hrd.out, Hfin.out, Her.out]
    · rw [Hrd.out, Hfin.out]; exact Hin5.out
  case false =>
  have hez : plWrong p t = 0 := by rw [← Her.out]; simpa using he
  have Hez := hid hez
  have q := five_cells hy4
  obtain ⟨y0, y1, y2, y3, y4⟩ := q
  clear hez
  go_wp2_with fail
  refine (Hfi.out _ (bel_go HB4.out HB3.out)).mono ?_
  rintro e w5 ⟨rfl, b5⟩
  clear z0 z1 y0 y1 y2 y3 y4 hx4 hy4 hr4
  have HB5 := hid (bel_go b5 HB4.out)
  clear b5 HB4
  have hx5 := (HB5.out.block w.heap.size (by omega)).trans HX.out
  have hy5 := (HB5.out.block (w.heap.size + 1) (by omega)).trans HY.out
  have hr5 := (HB5.out.block (w.heap.size + 2) (by omega)).trans HR.out
  have hz5 := HB5.out.size
  have q := two_cells hx5
  obtain ⟨z0, z1, -, -⟩ := q
  cases hf : plFind p.terms t with
  | some k =>
    have hfi : fi = (k : Nat) := by rw [Hfd.out]; unfold rfFound; rw [hf]
    have Hf := hid hf
    clear hf
    subst hfi
    have q := two_cells hr5
    obtain ⟨r0, r1, -, -⟩ := q
    have f0 := frozen_all hr5 0; have f1 := frozen_all hr5 1
    have hr6 := set2_same hr5 (.slice pa p.syms.length ca) (.slice pb p.terms.length cb)
    have HR6 := hid hr6
    have Hfin := hid (plMake_there Hez.out Hf.out)
    have hin5 := back.out w5 HB5.out
    have hin6 := (hin5.setFar ⟨w.heap.size + 2, 0, none⟩ (.slice pa p.syms.length ca) _ _ hr5 (by decide) (fun e => by have := far.out _ e; simp at this; omega))
    have hr56 := heap_setCell_same w5 (w.heap.size + 2) 0 _ _ (.slice pa p.syms.length ca) hr5
    have Hin6 := hid (hin6.setFar ⟨w.heap.size + 2, 1, none⟩ (.slice pb p.terms.length cb) _ _ hr56 (by decide) (fun e => by have := far.out _ e; simp at this; omega))
    have Hb6 := hid (((bel_go HB5.out HB3.out).setCell (p := ⟨w.heap.size + 2, 0, none⟩) (by show w.heap.size ≤ w.heap.size + 2; omega) (.slice pa p.syms.length ca)).setCell (p := ⟨w.heap.size + 2, 1, none⟩) (by show w.heap.size ≤ w.heap.size + 2; omega) (.slice pb p.terms.length cb))
    clear hx5 hy5 hr5 hr6 hin5 hin6 hr56
    go_wp2
    have q := two_cells HR6.out
    obtain ⟨s0, s1, -, -⟩ := q
    refine bodyPost_ret (v := .tuple #[.agg #[.slice pa p.syms.length ca, .slice pb p.terms.length cb], .int .i64 (k : Nat), .int .i64 0]) (by simp [results, Tryd.results14, go_sem, s0, s1]) rfl ⟨_, ?_, ?_, Apart.of_below Hb6.out, .inl rfl⟩
    · rw [Hrd.out, Hfin.out]
    · rw [Hrd.out, Hfin.out]; exact Hin6.out
  | none =>
    have hfi : fi = -1 := by rw [Hfd.out]; unfold rfFound; rw [hf]
    have Hf := hid hf
    clear hf
    subst hfi
    cases hfull : decide ((4096 : Int) ≤ (p.terms.length : Nat))
    case true =>
      have Hfl := hid (show p.terms.length = 4096 by have := of_decide_eq_true hfull; omega)
      have q := two_cells hr5
      obtain ⟨r0, r1, -, -⟩ := q
      have f0 := frozen_all hr5 0; have f1 := frozen_all hr5 1
      have hr6 := set2_same hr5 (.slice pa p.syms.length ca) (.slice pb p.terms.length cb)
      have HR6 := hid hr6
      have Hfin := hid (plMake_full Hez.out Hf.out Hfl.out)
      have hin5 := back.out w5 HB5.out
      have hin6 := (hin5.setFar ⟨w.heap.size + 2, 0, none⟩ (.slice pa p.syms.length ca) _ _ hr5 (by decide) (fun e => by have := far.out _ e; simp at this; omega))
      have hr56 := heap_setCell_same w5 (w.heap.size + 2) 0 _ _ (.slice pa p.syms.length ca) hr5
      have Hin6 := hid (hin6.setFar ⟨w.heap.size + 2, 1, none⟩ (.slice pb p.terms.length cb) _ _ hr56 (by decide) (fun e => by have := far.out _ e; simp at this; omega))
      have Hb6 := hid (((bel_go HB5.out HB3.out).setCell (p := ⟨w.heap.size + 2, 0, none⟩) (by show w.heap.size ≤ w.heap.size + 2; omega) (.slice pa p.syms.length ca)).setCell (p := ⟨w.heap.size + 2, 1, none⟩) (by show w.heap.size ≤ w.heap.size + 2; omega) (.slice pb p.terms.length cb))
      clear hx5 hy5 hr5 hr6 hin5 hin6 hr56
      go_wp2
      have q := two_cells HR6.out
      obtain ⟨s0, s1, -, -⟩ := q
      refine bodyPost_ret (v := .tuple #[.agg #[.slice pa p.syms.length ca, .slice pb p.terms.length cb], .int .i64 0, .int .i64 11]) (by simp [results, Tryd.results14, go_sem, s0, s1]) rfl ⟨_, ?_, ?_, Apart.of_below Hb6.out, .inl rfl⟩
      · rw [Hrd.out, Hfin.out]
      · rw [Hrd.out, Hfin.out]; exact Hin6.out
    case false =>
    have Hfl := hid (show p.terms.length < 4096 by have := of_decide_eq_false hfull; omega)
    have q := five_cells hy5
    obtain ⟨y0, y1, y2, y3, y4⟩ := q
    go_upto_region 9 with fail
    clear z0 z1 hfull
    go_wp2_with fail
    refine (Hwh.out _ (bel_go HB5.out HB3.out)).mono ?_
    rintro e w6 ⟨v6, rfl, hi6, b6⟩
    obtain ⟨p6, n6, c6, rfl, hi6⟩ := hi6.shape
    obtain ⟨sx, hsx, hown6⟩ := hi6
    have hsx : sx = .slice p6 n6 c6 := by simpa using hsx.symm
    subst hsx
    clear y0 y1 y2 y3 y4
    have HB6 := hid (bel_go b6 HB5.out)
    have hz6 := HB6.out.size
    have hx6 := (HB6.out.block w.heap.size (by omega)).trans HX.out
    have hy6 := (HB6.out.block (w.heap.size + 1) (by omega)).trans HY.out
    have q := five_cells hy6
    obtain ⟨y0, y1, y2, y3, y4⟩ := q
    have f2 := frozen_all hy6 2; have f3 := frozen_all hy6 3
    have hs6 := b6.size
    clear b6 hx5 hy5 hr5
    have hown6 := hown6.mono (base' := B) (by have := HB3.out.size; omega)
    have hlow6 : w.heap.size + 1 < w5.heap.size := by omega
    go_upto_region 10 with fail
    clear y0 y1 y2 y3 y4 f2 f3
    have hy7 := heap_setCell_same _ (w.heap.size + 1) 3 _ _ (.slice p6 n6 c6) (heap_setCell_same w6 (w.heap.size + 1) 2 _ _ (.bool (decide (t.num < 0))) hy6)
    simp only [List.setIfInBounds_toArray, List.set_cons_zero, List.set_cons_succ] at hy7
    have E7 : ∀ k, k ≠ w.heap.size + 1 → ((w6.setCell ⟨w.heap.size + 1, 2, none⟩ (.bool (decide (t.num < 0)))).setCell ⟨w.heap.size + 1, 3, none⟩ (.slice p6 n6 c6)).heap[k]? = w6.heap[k]? := fun k hk => (Below.heap_setCell _ _ _ _ hk).trans (Below.heap_setCell _ _ _ _ hk)
    have hz7 : ((w6.setCell ⟨w.heap.size + 1, 2, none⟩ (.bool (decide (t.num < 0)))).setCell ⟨w.heap.size + 1, 3, none⟩ (.slice p6 n6 c6)).heap.size = w6.heap.size := by simp [World.setCell]
    have bw7 : Below w.heap.size w ((w6.setCell ⟨w.heap.size + 1, 2, none⟩ (.bool (decide (t.num < 0)))).setCell ⟨w.heap.size + 1, 3, none⟩ (.slice p6 n6 c6)) := ((bel_go HB6.out HB3.out).setCell (p := ⟨w.heap.size + 1, 2, none⟩) (Nat.le_succ _) _).setCell (p := ⟨w.heap.size + 1, 3, none⟩) (Nat.le_succ _) _
    generalize hW7 : ((w6.setCell ⟨w.heap.size + 1, 2, none⟩ (.bool (decide (t.num < 0)))).setCell ⟨w.heap.size + 1, 3, none⟩ (.slice p6 n6 c6)) = w7 at *
    have hn7 : Own w7 B 98 .u64 (.slice p6 n6 c6) (dig W t.num.natAbs) := row_stays hown6 fun k hk => E7 k (fun e => tag_ne (row_tag hown6 k hk).choose_spec (e ▸ hy6) (by decide) rfl)
    have hrow7 := row_stays Hrow.out (w' := w7) fun k hk => (E7 k (by have := far.out k hk; omega)).trans (((bel_go HB6.out HB3.out).block k (far.out k hk)))
    have hrr7 := RfRows.stays (w' := w7) (fun k hk => (bel_go HB6.out HB3.out).block k (by obtain ⟨cc', hc⟩ := hk; exact lt_of_block hc) |> fun e => by
      obtain ⟨cc', hc⟩ := hk
      have hlt := lt_of_block hc
      exact (E7 k (by omega)).trans e) Hrr.out
    have hx7 := (E7 w.heap.size (by omega)).trans hx6
    have hr7 := (E7 (w.heap.size + 2) (by omega)).trans ((HB6.out.block (w.heap.size + 2) (by omega)).trans HR.out)
    clear hW7 hy6 hown6 hx6 E7
    have b8 := below1 w7 (.cells #[.int .i64 t.op, .slice pc t.args.length cc, .bool (decide (t.num < 0)), .slice p6 n6 c6, .int .i64 t.sym] 39)
    have hnews := cells_at (c := [.int .i64 t.op, .slice pc t.args.length cc, .bool (decide (t.num < 0)), .slice p6 n6 c6, .int .i64 t.sym]) (heap_alloc_new w7 (.cells #[.int .i64 t.op, .slice pc t.args.length cc, .bool (decide (t.num < 0)), .slice p6 n6 c6, .int .i64 t.sym] 39))
    have hrow8 := ownsRow_later hrow7 b8
    have hz8 := size_alloc w7 (.cells #[.int .i64 t.op, .slice pc t.args.length cc, .bool (decide (t.num < 0)), .slice p6 n6 c6, .int .i64 t.sym] 39)
    have hx8 := (b8.block w.heap.size (by omega)).trans hx7
    have hr8 := (b8.block (w.heap.size + 2) (by omega)).trans hr7
    have hn8 := Own.kept hn7 b8
    have hrr8 := RfRows.stays (w' := w7.alloc (.cells #[.int .i64 t.op, .slice pc t.args.length cc, .bool (decide (t.num < 0)), .slice p6 n6 c6, .int .i64 t.sym] 39)) (fun k hk => b8.block k (by obtain ⟨cc', hc⟩ := hk; exact lt_of_block hc)) hrr7
    have bw8 := bel_go b8 bw7
    have q := two_cells hx7
    obtain ⟨z0, z1, -, -⟩ := q
    have q := five_cells hy7
    obtain ⟨y0, y1, y2, y3, y4⟩ := q
    obtain ⟨i0, hii, hiz0, hiz1, hiz2⟩ := info_parts infoTerm
    have Hn8 := hid hn8; have Hrr8 := hid hrr8; have Hx8 := hid hx8; have Hr8 := hid hr8; have Hbw8 := hid bw8
    have hz7' := Nat.le_of_eq hz7.symm
    replace hz7 := Nat.le_of_eq hz7.symm
    replace hz8 := Nat.le_of_eq hz8.symm
    clear hn7 hrr7 hx7 hr7 b8 hrow7 hx8 hr8 hn8 hrr8 bw8 bw7 hy7
    go_wp2_with (at_builtin; refine wpList_append_own_at _ rfl _ _ 23 rfl B 39 i0 _ 5 72 Tryd.underlying23 hii hiz0 hiz1 hiz2 rfl (by decide) _ p.terms.length _ rfl hrow8 ⟨w7.heap.size, 0, none⟩ 1 1 [.int .i64 t.op, .slice pc t.args.length cc, .bool (decide (t.num < 0)), .slice p6 n6 c6, .int .i64 t.sym] rfl rfl hnews (by intro u hu; simp at hu; rcases hu with rfl | rfl | rfl | rfl | rfl <;> rfl) (by simp [maxLen]; omega) (by omega) (by have := HB3.out.size; omega) ?_; intro v9 w9 ho9 hg9 _ hat9; obtain ⟨p9, c9, rfl⟩ := ownsRow_shape ho9; have fN : (Value.slice pb p.terms.length cb).ownBlock ≠ some w.heap.size := (fun e => by have := far.out _ e; omega); have fR : (Value.slice pb p.terms.length cb).ownBlock ≠ some (w.heap.size + 2) := (fun e => by have := far.out _ e; omega); have hx9 := (hg9.block w.heap.size (by omega) (fun e => fN e.symm)).trans Hx8.out; have q9 := two_cells hx9; obtain ⟨zz0, zz1, zf0, zf1⟩ := q9)
    have hat9 : (Value.slice p9 (p.terms.length + 1) c9).ownBlock = (Value.slice pb p.terms.length cb).ownBlock ∨ (Value.slice p9 (p.terms.length + 1) c9).ownBlock = some (w7.alloc (.cells #[.int .i64 t.op, .slice pc t.args.length cc, .bool (decide (t.num < 0)), .slice p6 n6 c6, .int .i64 t.sym] 39)).heap.size := hat9
    have hx10 := heap_setCell_same w9 w.heap.size 1 _ _ (.slice p9 (p.terms.length + 1) c9) hx9
    simp only [List.setIfInBounds_toArray, List.set_cons_zero, List.set_cons_succ] at hx10
    have hr9 := (hg9.block (w.heap.size + 2) (by omega) (fun e => fR e.symm)).trans Hr8.out
    have hr10 := (Below.heap_setCell w9 ⟨w.heap.size, 1, none⟩ (.slice p9 (p.terms.length + 1) c9) (w.heap.size + 2) (by show w.heap.size + 2 ≠ w.heap.size; omega)).trans hr9
    have h9b : ∀ k, (Value.slice p9 (p.terms.length + 1) c9).ownBlock = some k → k < w.heap.size ∨ w6.heap.size ≤ k := fun k hk => by
      rcases hat9 with h | h
      · exact .inl (far.out k (by rw [← h]; exact hk))
      · rw [h] at hk; cases hk; exact .inr (Nat.le_trans hz7' (by simp))
    have hu9 : ∀ (k : Nat) (c : Array Value), (w7.alloc (.cells #[.int .i64 t.op, .slice pc t.args.length cc, .bool (decide (t.num < 0)), .slice p6 n6 c6, .int .i64 t.sym] 39)).heap[k]? = some (Obj.cells c 98 (0, 0)) → w9.heap[k]? = (w7.alloc (.cells #[.int .i64 t.op, .slice pc t.args.length cc, .bool (decide (t.num < 0)), .slice p6 n6 c6, .int .i64 t.sym] 39)).heap[k]? := fun k c hc => hg9.block k (lt_of_block hc) (fun e => by
      obtain ⟨c', hc'⟩ := row_tag hrow8 k e.symm
      exact tag_ne hc hc' (by decide) rfl)
    have hrr9 := RfRows.stays (w' := w9) (fun k hk => by obtain ⟨c', hc⟩ := hk; exact hu9 k c' hc) Hrr8.out
    have hn9 : Own w9 B 98 .u64 (.slice p6 n6 c6) (dig W t.num.natAbs) := row_stays Hn8.out fun k hk => by obtain ⟨c', hc⟩ := row_tag Hn8.out k hk; exact hu9 k c' hc
    have hin9 : RfIn W0 B w9 (.slice p9 (p.terms.length + 1) c9) (p.terms ++ [t]) := ⟨_, by rw [List.length_append]; exact ho9, hrr9.snoc ⟨_, _, rfl, hargs, hn9⟩⟩
    have hin10 := hin9.setFar ⟨w.heap.size, 1, none⟩ (.slice p9 (p.terms.length + 1) c9) _ _ hx9 (by decide) (fun e => by have := h9b _ e; simp at this; omega)
    have ha9 : Apart (fun k => (Value.slice pb p.terms.length cb).ownBlock = some k) w w9 := (Apart.of_below Hbw8.out).grown hg9 (fun k e => e)
    have ha10 := ha9.setNew (q := ⟨w.heap.size, 1, none⟩) (Nat.le_refl _) (.slice p9 (p.terms.length + 1) c9)
    have hat10 : (Value.slice p9 (p.terms.length + 1) c9).ownBlock = (Value.slice pb p.terms.length cb).ownBlock ∨ ∀ k, (Value.slice p9 (p.terms.length + 1) c9).ownBlock = some k → w.heap.size ≤ k := hat9.imp id fun h k hk => by
      rw [h] at hk; cases hk
      have := Hbw8.out.size
      have : w.heap.size ≤ w6.heap.size := by omega
      exact Nat.le_trans (Nat.le_trans this hz7') (by simp)
    generalize hW10 : (w9.setCell ⟨w.heap.size, 1, none⟩ (.slice p9 (p.terms.length + 1) c9)) = w10 at *
    have hin11 := hin10.setFar ⟨w.heap.size + 2, 0, none⟩ (.slice pa p.syms.length ca) _ _ hr10 (by decide) (fun e => by have := h9b _ e; simp at this; omega)
    have hr11 := heap_setCell_same w10 (w.heap.size + 2) 0 _ _ (.slice pa p.syms.length ca) hr10
    have Hin12 := hid (hin11.setFar ⟨w.heap.size + 2, 1, none⟩ (.slice p9 (p.terms.length + 1) c9) _ _ hr11 (by decide) (fun e => by have := h9b _ e; simp at this; omega))
    have HR12 := hid (set2_same hr10 (.slice pa p.syms.length ca) (.slice p9 (p.terms.length + 1) c9))
    have Ha12 := hid ((ha10.setNew (q := ⟨w.heap.size + 2, 0, none⟩) (by show w.heap.size ≤ w.heap.size + 2; omega) (.slice pa p.syms.length ca)).setNew (q := ⟨w.heap.size + 2, 1, none⟩) (by show w.heap.size ≤ w.heap.size + 2; omega) (.slice p9 (p.terms.length + 1) c9))
    have Hat := hid hat10
    have q := two_cells hx10
    obtain ⟨z0, z1, -, -⟩ := q
    have q := two_cells hr10
    obtain ⟨r0, r1, g0, g1⟩ := q
    clear hW10 hx10 hr9 hr10 h9b hu9 hrr9 hn9 hin9 hin10 ha9 ha10 hat10 hin11 hr11 hx9 zz0 zz1 zf0 zf1 hg9 hat9 ho9 Hx8 Hr8 Hrr8 Hn8 hnews hrow8
    have Hfin := hid (plMake_new Hez.out Hf.out (by have := Hfl.out; omega))
    go_region
    clear z0 z1 r0 r1 g0 g1
    go_wp2
    have q := two_cells HR12.out
    obtain ⟨s0, s1, -, -⟩ := q
    refine bodyPost_ret (v := .tuple #[.agg #[.slice pa p.syms.length ca, .slice p9 (p.terms.length + 1) c9], .int .i64 (p.terms.length : Nat), .int .i64 0]) (by simp [results, Tryd.results14, go_sem, s0, s1]) rfl ⟨_, ?_, ?_, Ha12.out.drew, Hat.out⟩
    · rw [Hrd.out, Hfin.out]
    · rw [Hrd.out, Hfin.out]; exact Hin12.out.stays (fun _ _ _ _ _ _ => rfl) (fun _ _ _ => rfl)
end Go.Proofs.YtmdkfpidohcafaaDoor
/- elenchusref04.CheckSyms, Few. -/
namespace Go.Proofs.YtmdkfpidohcafaaDoor
open Go.RowKit Big Go.WideMaps

/-- two symbols of one name stand among these -/
def dupN : List Sy → Bool
  | [] => false
  | s :: l => dupN l || l.any (fun x => x.name == s.name)
/-- a name stands twice among the first k -/
def dupAt (l : List Sy) (i : Nat) (h : i < l.length) : Bool := (l.take i).any fun x => x.name == l[i].name
theorem plDecls_err : ∀ (l : List Sy) (p : Po), p.syms.length + l.length ≤ 256 → l.any plBadSym = false → ((∀ i (h : i < l.length), dupAt l i h = false ∧ p.syms.any (fun x => x.name == l[i].name) = false) → (plDecls p l).2 = 0) ∧ ((∃ i, ∃ h : i < l.length, dupAt l i h = true ∨ p.syms.any (fun x => x.name == l[i].name) = true) → (plDecls p l).2 = 7)
  | [], p, _, _ => ⟨fun _ => rfl, fun ⟨i, h, _⟩ => absurd h (by simp)⟩
  | s :: l, p, hl, hb => by
    rw [List.any_cons, Bool.or_eq_false_iff] at hb
    have hlen : p.syms.length ≠ 256 := by simp at hl; omega
    cases hn : p.syms.any (fun x => x.name == s.name)
    case true =>
      refine ⟨fun h => ?_, fun _ => ?_⟩
      · have := (h 0 (by simp)).2
        simp only [List.getElem_cons_zero] at this
        rw [hn] at this; cases this
      · unfold plDecls
        rw [plDeclare_name hb.1 hn]
        rfl
    case false =>
      have hd := plDeclare_new hb.1 hn hlen
      have hr : plDecls p (s :: l) = plDecls ⟨p.syms ++ [s], p.terms, p.sorts⟩ l := by
        rw [plDecls]
        rw [hd]
        simp
      rw [hr]
      have ih := plDecls_err l ⟨p.syms ++ [s], p.terms, p.sorts⟩ (by simp at hl ⊢; omega) hb.2
      have key : ∀ i (h : i < l.length), dupAt (s :: l) (i + 1) (by simpa using h) = (dupAt l i h || (s.name == l[i].name)) := fun i h => by
        unfold dupAt
        simp only [List.take_succ_cons, List.any_cons, List.getElem_cons_succ]
        rw [Bool.or_comm]
      have key2 : ∀ i (h : i < l.length), (p.syms ++ [s]).any (fun x => x.name == l[i].name) = (p.syms.any (fun x => x.name == l[i].name) || (s.name == l[i].name)) := fun i h => by simp
      refine ⟨fun h => ih.1 fun i hi => ?_, fun ⟨i, hi, h⟩ => ?_⟩
      · have h1 := h (i + 1) (by simpa using hi)
        rw [key i hi] at h1
        simp only [List.getElem_cons_succ, Bool.or_eq_false_iff] at h1
        exact ⟨h1.1.1, by show (p.syms ++ [s]).any _ = false; rw [key2 i hi, h1.2, h1.1.2]; rfl⟩
      · cases i with
        | zero =>
          exfalso
          rcases h with h | h
          · simp [dupAt] at h
          · simp only [List.getElem_cons_zero] at h; rw [hn] at h; cases h
        | succ i =>
          have hi' : i < l.length := by simpa using hi
          refine ih.2 ⟨i, hi', ?_⟩
          rw [key i hi'] at h
          simp only [List.getElem_cons_succ, Bool.or_eq_true] at h
          rcases h with (h | h) | h
          · exact .inl h
          · exact .inr (by show (p.syms ++ [s]).any _ = true; rw [key2 i hi', h]; simp)
          · exact .inr (by show (p.syms ++ [s]).any _ = true; rw [key2 i hi', h]; rfl)
theorem newErr_dup {l : List Sy} (h : ¬ 256 < l.length) (hb : l.any plBadSym = false) (i : Nat) (hi : i < l.length) (hd : dupAt l i hi = true) : plNewErr l = 7 := by
  unfold plNewErr
  rw [if_neg h, if_neg (by simp [hb])]
  exact (plDecls_err l ⟨[], [], []⟩ (by simp; omega) hb).2 ⟨i, hi, .inl hd⟩
theorem newErr_ok {l : List Sy} (h : ¬ 256 < l.length) (hb : l.any plBadSym = false) (hd : ∀ i (hi : i < l.length), dupAt l i hi = false) : plNewErr l = 0 := by
  unfold plNewErr
  rw [if_neg h, if_neg (by simp [hb])]
  exact (plDecls_err l ⟨[], [], []⟩ (by simp; omega) hb).1 fun i hi => ⟨hd i hi, rfl⟩
set_option maxRecDepth 100000 in
set_option maxHeartbeats 12800000 in
theorem CheckSyms_any (v : Value) (l : List Sy) (w : World) (hl : SyIn w v l) : Calls Tryd.prog 12 #[v] w (RNum .i64 (plNewErr l) w) := by
  obtain ⟨pa, ca, rfl, i1, i2, -, i4⟩ := hl
  have Hi := hid i4
  have Hsym := hid (fun (s : Sy) W => IsSym_any s W)
  unfold maxLen at i2
  clear i4
  cases hlong : decide ((256 : Int) < (l.length : Nat))
  case true =>
    have He := hid (show plNewErr l = 11 by unfold plNewErr; rw [if_pos (by have := of_decide_eq_true hlong; omega)])
    go_enter Tryd.func12, Tryd.ntmps12
    go_wp2
    go_ret
    exact ⟨by rw [He.out]; rfl, Below.refl _ _⟩
  case false =>
  have Hle := hid (show ¬ 256 < l.length by have := of_decide_eq_false hlong; omega)
  have hle : l.length ≤ 256 := by have := Hle.out; omega
  go_enter Tryd.func12, Tryd.ntmps12
  go_wp2_with fail
  clear hlong
  go_loopw [14] (fun i wr => ∃ k : Nat, k ≤ l.length ∧ i = .int .i64 (k : Nat) ∧ Hid ((l.take k).any plBadSym = false) ∧ Hid (Below w.heap.size w wr)) (fun i _ => l.length - (intOf i).toNat)
  case atStart => exact ⟨0, Nat.zero_le _, rfl, hid rfl, hid (Below.refl _ _)⟩
  case round =>
    obtain ⟨k, hk, rfl, hany, Hb⟩ := hrel
    by_cases hlt : k < l.length
    · have hlt' : (k : Int) < (l.length : Nat) := by omega
      obtain ⟨bb, off, rfl, j1, j2⟩ := Hi.out (by omega)
      obtain ⟨m0, m1, m2⟩ := j2 k hlt
      have m0 := (Hb.out.cell (p := ⟨bb, off + k * 3, none⟩) j1).trans m0
      have m1 := (Hb.out.cell (p := ⟨bb, off + k * 3 + 1, none⟩) j1).trans m1
      have m2 := (Hb.out.cell (p := ⟨bb, off + k * 3 + 2, none⟩) j1).trans m2
      have hc := fun W => Hsym.out l[k] W
      have hs1 := any_take_succ plBadSym l k hlt hany.out
      have hs2 := any_of_at plBadSym l k hlt
      generalize l[k] = x at *
      generalize plBadSym x = r at *
      unfold Sy.val at hc
      have Hs1 := hid hs1; have Hs2 := hid hs2; have Hc := hid hc
      clear j2 hs1 hs2 hc hany
      obtain ⟨nm, ar, so⟩ := x
      dsimp only at *
      have bx := below1 wr (.cells #[.string ⟨nm.toArray⟩, .int .i64 ar, .int .i64 so] 51)
      cases r
      · go_wp2_with (refine (Hc.out _).mono ?_; rintro e w1 ⟨rfl, b1⟩)
        go_roundw
        case rel => exact ⟨k + 1, by omega, rfl, hid (Hs1.out (by trivial)), hid (Hb.out.trans ((bel_go b1 bx).mono Hb.out.size))⟩
        case measure => simp [intOf]; omega
      · have He := hid (show plNewErr l = 6 by unfold plNewErr; rw [if_neg Hle.out, if_pos (Hs2.out (by trivial))])
        go_wp2_with (refine (Hc.out _).mono ?_; rintro e w1 ⟨rfl, b1⟩)
        go_ret
        exact ⟨by rw [He.out]; rfl, Hb.out.trans ((bel_go b1 bx).mono Hb.out.size)⟩
    · have hkk : k = l.length := by omega
      subst hkk
      have Hbad := hid (show l.any plBadSym = false by have := hany.out; rwa [List.take_length] at this)
      clear hany
      go_wp2_with fail
      go_loopw [24] (fun i wq => ∃ k : Nat, k ≤ l.length ∧ i = .int .i64 (k : Nat) ∧ Hid (∀ i (h : i < l.length), i < k → dupAt l i h = false) ∧ Hid (Below w.heap.size w wq)) (fun i _ => l.length - (intOf i).toNat)
      case atStart => exact ⟨0, Nat.zero_le _, rfl, hid (fun i _ h => absurd h (by omega)), Hb⟩
      case round =>
        obtain ⟨k, hk, rfl, hdup, Hq⟩ := hrel
        by_cases hlt : k < l.length
        · have hlt' : (k : Int) < (l.length : Nat) := by omega
          obtain ⟨bb, off, rfl, j1, j2⟩ := Hi.out (by omega)
          obtain ⟨m0, m1, m2⟩ := j2 k hlt
          have m0 := (Hq.out.cell (p := ⟨bb, off + k * 3, none⟩) j1).trans m0
          have m1 := (Hq.out.cell (p := ⟨bb, off + k * 3 + 1, none⟩) j1).trans m1
          have m2 := (Hq.out.cell (p := ⟨bb, off + k * 3 + 2, none⟩) j1).trans m2
          have hstep : ∀ j (hj : j < k), ((l.take j).any (fun x => x.name == l[k].name) = false) → ((l[j]'(by omega)).name == l[k].name) = false → (l.take (j + 1)).any (fun x => x.name == l[k].name) = false := fun j hj h1 h2 => by
            rw [List.take_succ_eq_append_getElem (by omega), List.any_append, h1]
            simpa using h2
          have hyes : ∀ j (hj : j < k), ((l[j]'(by omega)).name == l[k].name) = true → dupAt l k hlt = true := fun j hj h => by
            unfold dupAt
            rw [List.any_eq_true]
            exact ⟨l[j]'(by omega), by rw [List.mem_take_iff_getElem]; exact ⟨j, by omega, rfl⟩, h⟩
          have hno : (l.take k).any (fun x => x.name == l[k].name) = false → ∀ i (h : i < l.length), i < k + 1 → dupAt l i h = false := fun h i hi hik => by
            by_cases hie : i = k
            · subst hie; exact h
            · exact hdup.out i hi (by omega)
          have Hstep := hid hstep; have Hyes := hid hyes; have Hno := hid hno
          have bx := below1 wr (.cells #[.string ⟨l[k].name.toArray⟩, .int .i64 l[k].arity, .int .i64 l[k].sort] 51)
          have hbx := heap_alloc_new wr (.cells #[.string ⟨l[k].name.toArray⟩, .int .i64 l[k].arity, .int .i64 l[k].sort] 51)
          have hsz := size_alloc wr (.cells #[.string ⟨l[k].name.toArray⟩, .int .i64 l[k].arity, .int .i64 l[k].sort] 51)
          have hkc : (k : Int) ≤ (ca : Nat) := by omega
          have hkn : (0 : Int) ≤ (k : Nat) := by omega
          have J2 := hid j2
          clear hstep hyes hno j2 hdup
          generalize hxk : l[k].name = nk at *
          generalize l[k].arity = ak at *
          generalize l[k].sort = sk at *
          have Hxk := hid hxk
          clear hxk
          go_upto_region 12 with fail
          generalize hW5 : (wr.alloc (.cells #[.string ⟨nk.toArray⟩, .int .i64 ak, .int .i64 sk] 51)) = w5 at *
          have Hq5 := hid (Hq.out.trans (bx.mono Hq.out.size))
          have hwr : wr.heap.size < w5.heap.size := by omega
          clear hW5 hsz m0 m1 m2 bx
          generalize wr.heap.size = gx at hbx hwr ⊢
          have HBX := hid hbx
          clear hbx
          go_wp2_with fail
          go_loopw [33] (fun i wr => ∃ j : Nat, j ≤ k ∧ i = .int .i64 (j : Nat) ∧ Hid ((l.take j).any (fun x => x.name == nk) = false) ∧ Hid (Below w5.heap.size w5 wr)) (fun i _ => k - (intOf i).toNat)
          case atStart => exact ⟨0, Nat.zero_le _, rfl, hid rfl, hid (Below.refl _ _)⟩
          case round =>
            obtain ⟨j, hj, rfl, hn, Hi5⟩ := hrel
            have Hiw := hid (Hq5.out.trans (Hi5.out.mono Hq5.out.size))
            by_cases hjk : j < k
            · have hjk' : (j : Int) < (k : Nat) := by omega
              obtain ⟨m0, m1, m2⟩ := J2.out j (by omega)
              have m0 := (Hiw.out.cell (p := ⟨bb, off + j * 3, none⟩) j1).trans m0
              have m1 := (Hiw.out.cell (p := ⟨bb, off + j * 3 + 1, none⟩) j1).trans m1
              have m2 := (Hiw.out.cell (p := ⟨bb, off + j * 3 + 2, none⟩) j1).trans m2
              have bz := below1 wr (.cells #[.string ⟨(l[j]'(by omega)).name.toArray⟩, .int .i64 (l[j]'(by omega)).arity, .int .i64 (l[j]'(by omega)).sort] 51)
              have y0 := (bz.cell (p := ⟨gx, 0, none⟩) (by have := Hi5.out.size; dsimp only; omega)).trans ((Hi5.out.cell (p := ⟨gx, 0, none⟩) (by dsimp only; omega)).trans (three_cells HBX.out).1)
              have hs := Hstep.out j hjk
              have hy := Hyes.out j hjk
              have Hi6 := hid (Hi5.out.trans (bz.mono Hi5.out.size))
              generalize (l[j]'(by omega)).arity = aj at *
              generalize (l[j]'(by omega)).sort = sj at *
              generalize (l[j]'(by omega)).name = nj at *
              have Hs := hid hs; have Hy := hid hy
              clear hs hy bz
              cases he : (nk == nj)
              · have hne : (nj == nk) = false := by rw [Bool.eq_false_iff] at he ⊢; intro h; exact he (by simpa using (eq_of_beq h).symm)
                have Hr := hid (Hs.out hn.out hne)
                clear hne
                go_wp2_with fail
                go_roundw
                case rel => exact ⟨j + 1, by omega, rfl, Hr, Hi6⟩
                case measure => simp [intOf]; omega
              · have hne : (nj == nk) = true := by simpa using (eq_of_beq he).symm
                have He := hid (show plNewErr l = 7 from newErr_dup Hle.out Hbad.out k hlt (Hy.out hne))
                clear hne
                go_wp2_with fail
                go_ret
                exact ⟨by rw [He.out]; rfl, Hq5.out.trans (Hi6.out.mono Hq5.out.size)⟩
            · have hjj : j = k := by omega
              subst hjj
              have Hr := hid (Hno.out hn.out)
              go_wp2_with fail
              go_roundw
              case rel => exact ⟨j + 1, by omega, rfl, Hr, Hiw⟩
              case measure => simp [intOf]; omega
        · have hkk : k = l.length := by omega
          subst hkk
          have He := hid (show plNewErr l = 0 from newErr_ok Hle.out Hbad.out fun i hi => hdup.out i hi hi)
          go_wp2_with fail
          go_ret
          exact ⟨by rw [He.out]; rfl, Hq.out⟩
end Go.Proofs.YtmdkfpidohcafaaDoor
/- elenchusref04.Check. -/
namespace Go.Proofs.YtmdkfpidohcafaaDoor
open Go.RowKit Big Go.WideMaps

theorem plMake_split (p : Po) (t : Tm) (h : p.terms.length ≤ 4096) : (plMake p t).2.2 ≠ 0 ∨ (∃ k : Nat, k < p.terms.length ∧ plMake p t = (p, ((k : Nat) : Int), 0)) ∨ (plWrong p t = 0 ∧ p.terms.length < 4096 ∧ plMake p t = (⟨p.syms, p.terms ++ [t], p.sorts ++ [plSort p t]⟩, ((p.terms.length : Nat) : Int), 0)) := by
  by_cases hw : plWrong p t = 0
  · cases hf : plFind p.terms t with
    | some k => exact .inr (.inl ⟨k, (plFind_some hf).1, plMake_there hw hf⟩)
    | none =>
      by_cases hl : p.terms.length = 4096
      · left; rw [plMake_full hw hf hl]; show (11 : Int) ≠ 0; decide
      · exact .inr (.inr ⟨hw, by omega, plMake_new hw hf hl⟩)
  · left; rw [plMake_bad hw]; exact hw
/-- where the reference's Check stands -/
def ChkAt (W0 : World) (B G : Nat) (vs : Value) (syms : List Sy) (terms : List Tm) (k : Nat) (wr : World) : Prop :=
  ∃ pk vr, (plNews ⟨syms, [], []⟩ terms).2 = (plNews pk (terms.drop k)).2 ∧ PoGood pk ∧ pk.syms = syms ∧ pk.terms.length = k ∧ RfIn W0 B wr vr pk.terms ∧ (∀ x ∈ pk.terms, sz W x.num.natAbs ≤ 549755813888) ∧
    wr.heap[G]? = some (.cells #[vs, vr] 27 (0, 0)) ∧ Below W0.heap.size W0 wr
set_option maxRecDepth 100000 in
set_option maxHeartbeats 25600000 in
theorem RCheck_any (vs vt : Value) (syms : List Sy) (terms : List Tm) (w : World) (hs : SyIn w vs syms) (ht : TmsIn w vt terms) (hsz : ∀ x ∈ terms, sz W x.num.natAbs ≤ 549755813888) :
    Calls Tryd.prog 23 #[.agg #[vs, vt]] w (RNum .i64 (plCheck syms terms) w) := by
  have Hs := hid hs; have Ht := hid ht; have Hsz := hid hsz
  obtain ⟨pa, ca, rfl, -, -, -, -⟩ := hs
  obtain ⟨pb, cb, rfl, b1, b2, -, -⟩ := ht
  have bx := below1 w (.cells #[.slice pa syms.length ca, .slice pb terms.length cb] 27)
  have hx0 := heap_alloc_new w (.cells #[.slice pa syms.length ca, .slice pb terms.length cb] 27)
  have hz := size_alloc w (.cells #[.slice pa syms.length ca, .slice pb terms.length cb] 27)
  obtain ⟨z0, z1, -, -⟩ := two_cells hx0
  have Hcs := hid (CheckSyms_any _ syms _ (Hs.out.below bx))
  generalize hne : plNewErr syms = ne at Hcs
  have Hne := hid hne
  clear hsz hne
  unfold maxLen at b2
  go_enter Tryd.func23, Tryd.ntmps23
  go_wp2_with fail
  generalize hW : (w.alloc (.cells #[.slice pa syms.length ca, .slice pb terms.length cb] 27)) = W1 at *
  refine Hcs.out.mono ?_
  rintro e w2 ⟨rfl, b2'⟩
  have Hb2 := hid (bel_go b2' bx)
  have hx2 := (b2'.block w.heap.size (by omega)).trans hx0
  have hz2 := b2'.size
  clear hW z0 z1 Hcs
  cases he : (ne != 0)
  case true =>
    have He := hid (show plCheck syms terms = ne by unfold plCheck; rw [if_pos (by rw [Hne.out]; simpa using he), Hne.out])
    clear hx0 hx2
    go_wp2
    go_ret
    exact ⟨by rw [He.out]; rfl, Hb2.out⟩
  case false =>
  have He := hid (show plCheck syms terms = (plNews ⟨syms, [], []⟩ terms).2 by unfold plCheck; rw [if_neg (by rw [Hne.out]; simpa using he)])
  have hsl : syms.length ≤ 256 := by
    have h0 : plNewErr syms = 0 := by rw [Hne.out]; simpa using he
    by_cases h : 256 < syms.length
    · unfold plNewErr at h0; rw [if_pos h] at h0; cases h0
    · omega
  obtain ⟨z0, z1, -, -⟩ := two_cells hx2
  have bz := below1 w2 (.cells #[.slice pa syms.length ca, .slice none 0 0] 27)
  have hg0 := heap_alloc_new w2 (.cells #[.slice pa syms.length ca, .slice none 0 0] 27)
  have hzg := size_alloc w2 (.cells #[.slice pa syms.length ca, .slice none 0 0] 27)
  have hx3 := (bz.block w.heap.size (by omega)).trans hx2
  have Hb3 := hid (bel_go bz Hb2.out)
  have Hsl := hid hsl
  go_upto_region 5 with fail
  generalize hW : (w2.alloc (.cells #[.slice pa syms.length ca, .slice none 0 0] 27)) = W3 at *
  obtain ⟨G, hG⟩ : ∃ G, G = w2.heap.size := ⟨_, rfl⟩
  rw [← hG] at hg0 hzg ⊢
  have hGw : w.heap.size < G := by omega
  have hG3 : G < W3.heap.size := by omega
  clear hW z0 z1 hx0 hx2 bz hsl bx b2' hz hz2 hG hzg he
  obtain ⟨z0, z1, -, -⟩ := two_cells hx3
  have Hg0 := hid hg0
  clear hg0 hx3
  go_wp2_with fail
  clear z0 z1
  go_loopw [22] (fun i wr => ∃ k : Nat, k ≤ terms.length ∧ i = .int .i64 (k : Nat) ∧ Hid (ChkAt w W3.heap.size G (.slice pa syms.length ca) syms terms k wr) ∧ W3.heap.size ≤ wr.heap.size) (fun i _ => terms.length - (intOf i).toNat)
  case atStart => exact ⟨0, Nat.zero_le _, rfl, hid ⟨⟨syms, [], []⟩, .slice none 0 0, by rw [List.drop_zero], ⟨rfl, by simp, Hsl.out, fun k h => absurd h (by simp)⟩, rfl, rfl, ⟨[], World.ownsRow_nil _ _ _ _, rfl⟩, fun x h => absurd h (by simp), Hg0.out, Hb3.out⟩, Nat.le_refl _⟩
  case round =>
    obtain ⟨k, hk, rfl, Hk, hzr⟩ := hrel
    by_cases hlt : k < terms.length
    · have hlt' : (k : Int) < (terms.length : Nat) := by omega
      obtain ⟨pk, vr, hnx, hgood, hsy, hln, hrf, hszk, hgk, hbk⟩ := Hk.out
      obtain ⟨_, _, e5, -, -, -, hc⟩ := Ht.out.below hbk
      obtain ⟨_, _, e6, -, -, -, hcw⟩ := Ht.out
      cases e5; cases e6
      obtain ⟨bb, off, rfl, j1, j2⟩ := hcw (by omega)
      obtain ⟨c0, c1, c2, c3, c4, m0, m1, m2, m3, m4, hraw⟩ := j2 k hlt
      have m0 := (hbk.cell (p := ⟨bb, off + k * 5, none⟩) j1).trans m0
      have m1 := (hbk.cell (p := ⟨bb, off + k * 5 + 1, none⟩) j1).trans m1
      have m2 := (hbk.cell (p := ⟨bb, off + k * 5 + 2, none⟩) j1).trans m2
      have m3 := (hbk.cell (p := ⟨bb, off + k * 5 + 3, none⟩) j1).trans m3
      have m4 := (hbk.cell (p := ⟨bb, off + k * 5 + 4, none⟩) j1).trans m4
      have hszx := Hsz.out terms[k] (List.getElem_mem hlt)
      have hdr : terms.drop k = terms[k] :: terms.drop (k + 1) := List.drop_eq_getElem_cons hlt
      rw [hdr] at hnx
      generalize terms[k] = x at *
      have hsp := plMake_split pk x hgood.2.1
      have hrm := fun W (hW : Below wr.heap.size wr W) => RMake_any w W3.heap.size pk hgood x _ vr _ W (bel_go hW hbk) (Nat.le_trans hzr hW.size) (show SyIn w (.slice pa syms.length ca) pk.syms by rw [hsy]; exact Hs.out) (hrf.below hW) hraw hszx hszk
      obtain ⟨pe, ce, b', pm', nm', cm', ea, -, -⟩ := hraw
      have ea' := agg5 ea
      obtain ⟨rfl, rfl, rfl, rfl, rfl⟩ := ea'
      obtain ⟨csr, hrow, -⟩ := id hrf
      obtain ⟨pr, cr, rfl⟩ := ownsRow_shape hrow
      rw [hln] at hgk hrow hrm hsp
      have Hrm := hid hrm
      obtain ⟨g0, g1, -, -⟩ := two_cells hgk
      have bt := below1 wr (.cells #[.int .i64 x.op, .slice pe x.args.length ce, .bool b', .slice pm' nm' cm', .int .i64 x.sym] 39)
      have hGr : G < wr.heap.size := lt_of_block hgk
      have g0 := (bt.cell (p := ⟨G, 0, none⟩) hGr).trans g0
      have g1 := (bt.cell (p := ⟨G, 1, none⟩) hGr).trans g1
      have Hnx := hid hnx; have Hgood := hid hgood; have Hsy := hid hsy; have Hln := hid hln; have Hszk := hid hszk; have Hgk := hid hgk; have Hbk := hid hbk; have Hszx := hid hszx
      have Hrow := hid hrow
      clear hc hcw j2 hnx hgood hsy hln hszk hgk hbk hszx hrm hdr hrf ea hrow Hk
      obtain ⟨⟨p', n, er⟩, hpm⟩ : ∃ q, q = plMake pk x := ⟨_, rfl⟩
      rw [← hpm] at Hrm hsp
      have Hpm := hid hpm
      clear hpm
      dsimp only at Hrm hsp
      have hv3 : Hid (∀ u, (Value.slice pr k cr).ownBlock = some u → W3.heap.size ≤ u) := hid fun u hu => (World.ownsRow.lt Hrow.out u hu).1
      go_wp2_with fail
      refine (Hrm.out _ bt).mono ?_
      rintro e w4 ⟨vr', rfl, hrf', hA, -⟩
      clear m0 m1 m2 m3 m4 g0 g1 Hrm
      have hwW3 : w.heap.size ≤ W3.heap.size := by omega
      have hb4 : Below w.heap.size w w4 := (bel_go bt Hbk.out).trans (hA.below (B := w.heap.size) (Nat.le_trans hwW3 (Nat.le_trans hzr bt.size)) (fun i hi => Nat.le_trans hwW3 (hv3.out i hi)))
      have hg4 : w4.heap[G]? = _ := (hA.block G (Nat.lt_of_lt_of_le hGr bt.size) (fun e => by have := hv3.out G e; omega)).trans ((bt.block G hGr).trans Hgk.out)
      obtain ⟨csr', hrow', hrr'⟩ := id hrf'
      obtain ⟨pr', cr', evr⟩ := ownsRow_shape hrow'
      subst evr
      have hz4 : wr.heap.size ≤ w4.heap.size := Nat.le_trans bt.size hA.size
      have Hrf' := hid hrf'; have Hb4 := hid hb4; have Hg4 := hid hg4
      clear hrf' hA hb4 hg4 hrow' hrr' bt
      have hpnew : Hid (er ≠ 0 → (plNews pk (x :: terms.drop (k + 1))).2 = er) := hid fun h => by
        have hq : plNew pk x = (p', n, er) := by unfold plNew; rw [← Hpm.out, if_neg (fun hh => h hh.1)]
        rw [plNews, hq, if_pos h]
      rcases hsp with hE | ⟨j, hj, hE⟩ | ⟨hw0, hl, hE⟩
      · have Hf := hid (show plCheck syms terms = er by rw [He.out, Hnx.out, hpnew.out hE])
        have hbt : (er != 0) = true := by simpa using hE
        clear hE
        go_wp2_with fail
        go_ret
        exact ⟨by rw [Hf.out]; rfl, bel_go (below1 _ _) Hb4.out⟩
      · injection hE with e1 hE
        injection hE with e2 e3
        subst e1 e2 e3
        have Hf := hid (show plCheck syms terms = 6 by
          have hq : plNew p' x = (p', 0, 6) := by
            unfold plNew
            rw [← Hpm.out, if_pos ⟨rfl, by have := Hln.out; show ((j : Nat) : Int) < ((p'.terms.length : Nat) : Int); omega⟩]
          rw [He.out, Hnx.out, plNews, hq, if_pos (by show (6 : Int) ≠ 0; decide)])
        have hjk : ((j : Int) != (k : Nat)) = true := by
          have := Hln.out
          simp
          omega
        clear hj
        go_wp2_with fail
        go_ret
        exact ⟨by rw [Hf.out]; rfl, bel_go (below1 _ _) Hb4.out⟩
      · injection hE with e1 hE
        injection hE with e2 e3
        have e2' : n = (k : Nat) := e2
        subst e1 e3
        rw [e2'] at Hpm
        clear e2
        subst e2'
        have Hnext := hid (show (plNews ⟨syms, [], []⟩ terms).2 = (plNews ⟨pk.syms, pk.terms ++ [x], pk.sorts ++ [plSort pk x]⟩ (terms.drop (k + 1))).2 by
          have hq : plNew pk x = (⟨pk.syms, pk.terms ++ [x], pk.sorts ++ [plSort pk x]⟩, ((k : Nat) : Int), 0) := by
            unfold plNew
            rw [← Hpm.out, if_neg (fun hh => by have h2 := hh.2; have h3 := Hln.out; dsimp only at h2; omega)]
          rw [Hnx.out, plNews, hq, if_neg (by simp)])
        have Hg5 := hid (Hgood.out.make hw0 (by have := Hln.out; omega))
        have bq := below1 w4 (.cells #[.slice pa syms.length ca, .slice pr' (pk.terms ++ [x]).length cr'] 27)
        have hg5 := (bq.block G (by omega)).trans Hg4.out
        have hz5 := bq.size
        have hf0 := frozen_all hg5 0; have hf1 := frozen_all hg5 1
        obtain ⟨g0, g1, -, -⟩ := two_cells hg5
        have hg6 := set2_same hg5 (.slice pa syms.length ca) (.slice pr' (pk.terms ++ [x]).length cr')
        have hin5 := Hrf'.out.below bq
        have hGo : ∀ u, (Value.slice pr' (pk.terms ++ [x]).length cr').ownBlock = some u → u ≠ G := fun u hu e => by
          obtain ⟨cs5, hrow5, -⟩ := hin5
          have := (World.ownsRow.lt hrow5 u hu).1
          omega
        have hin6 := (hin5.setFar ⟨G, 0, none⟩ (.slice pa syms.length ca) _ _ hg5 (by decide) (fun e => hGo _ e rfl))
        have hg56 := heap_setCell_same _ G 0 _ _ (.slice pa syms.length ca) hg5
        have Hin7 := hid (hin6.setFar ⟨G, 1, none⟩ (.slice pr' (pk.terms ++ [x]).length cr') _ _ hg56 (by decide) (fun e => hGo _ e rfl))
        have Hg6 := hid hg6
        have Hb7 := hid (((bel_go bq Hb4.out).setCell (p := ⟨G, 0, none⟩) (by show w.heap.size ≤ G; omega) (.slice pa syms.length ca)).setCell (p := ⟨G, 1, none⟩) (by show w.heap.size ≤ G; omega) (.slice pr' (pk.terms ++ [x]).length cr'))
        have Hlen := hid (show (pk.terms ++ [x]).length = k + 1 by have := Hln.out; simp; omega)
        generalize (pk.terms ++ [x]).length = LL at Hin7 Hg6 Hb7 Hlen hin5 hg5 hz5 g0 g1 hf0 hf1 ⊢
        clear hg5 hg6 hin5 hin6 hg56 hGo bq hw0 hl
        go_wp2_with fail
        go_roundw
        case rel =>
          refine ⟨k + 1, by omega, rfl, hid ⟨_, _, Hnext.out, Hg5.out, Hsy.out, by have := Hln.out; simp; omega, Hin7.out, ?_, Hg6.out, Hb7.out⟩, by simp [World.setCell]; omega⟩
          intro y hy
          rcases List.mem_append.1 hy with hy | hy
          · exact Hszk.out y hy
          · simp at hy; subst hy; exact Hszx.out
        case measure => simp [intOf]; omega
    · have hkk : k = terms.length := by omega
      subst hkk
      obtain ⟨pk, vr, hnx, -, -, -, -, -, -, hbk⟩ := Hk.out
      rw [List.drop_length] at hnx
      have Hf := hid (show plCheck syms terms = 0 by rw [He.out, hnx]; rfl)
      have Hbk := hid hbk
      clear hnx hbk Hk
      go_wp2_with fail
      go_ret
      exact ⟨by rw [Hf.out]; rfl, Hbk.out⟩
end Go.Proofs.YtmdkfpidohcafaaDoor
/- elenchusref04.Few; PoolChecks answers true. -/
namespace Go.Proofs.YtmdkfpidohcafaaDoor
open Go.RowKit Big Go.WideMaps

def fewT (x : Tx) : Bool := decide (x.args.length ≤ 70) && decide (x.words.length ≤ 8)
def plFew (sy : List Sy) (tx : List Tx) : Bool := decide (sy.length ≤ 40) && decide (tx.length ≤ 200) && tx.all fewT
theorem TxsIn.below {w w' : World} {v : Value} {l : List Tx} (h : TxsIn w v l) (hb : Below w.heap.size w w') : TxsIn w' v l := by
  obtain ⟨p, cap, rfl, h1, h2, h3, h4⟩ := h
  refine ⟨p, cap, rfl, h1, h2, h3, fun hp => ?_⟩
  obtain ⟨b, off, h5, h6, h7⟩ := h4 hp
  refine ⟨b, off, h5, Nat.lt_of_lt_of_le h6 hb.size, fun i hi => ?_⟩
  obtain ⟨c0, c1, c2, c3, c4, e0, e1, e2, e3, e4, ht⟩ := h7 i hi
  have c : ∀ o, w'.cell? ⟨b, o, none⟩ = w.cell? ⟨b, o, none⟩ := fun o => hb.cell (p := ⟨b, o, none⟩) h6
  exact ⟨c0, c1, c2, c3, c4, (c _).trans e0, (c _).trans e1, (c _).trans e2, (c _).trans e3, (c _).trans e4, ht.below hb⟩
set_option maxRecDepth 100000 in
set_option maxHeartbeats 12800000 in
theorem RFew_any (va vb : Value) (sy : List Sy) (tx : List Tx) (w : World) (hs : SyIn w va sy) (ht : TxsIn w vb tx) : Calls Tryd.prog 10 #[.agg #[va, vb]] w (RBool (plFew sy tx) w) := by
  obtain ⟨pa, ca, rfl, a1, a2, -, -⟩ := hs
  obtain ⟨pb, cb, rfl, b1, b2, -, b4⟩ := ht
  have Hb4 := hid b4
  have bx := below1 w (.cells #[.slice pa sy.length ca, .slice pb tx.length cb] 27)
  have hx0 := heap_alloc_new w (.cells #[.slice pa sy.length ca, .slice pb tx.length cb] 27)
  obtain ⟨z0, z1, -, -⟩ := two_cells hx0
  obtain ⟨r, hr⟩ : ∃ r, r = plFew sy tx := ⟨_, rfl⟩
  rw [← hr]
  have Hr := hid hr
  clear hr b4 hx0
  unfold maxLen at a2 b2
  cases h40 : decide ((40 : Int) < (sy.length : Nat))
  case true =>
    have He := hid (show r = false by rw [Hr.out]; unfold plFew; rw [show decide (sy.length ≤ 40) = false by have := of_decide_eq_true h40; simp; omega]; rfl)
    go_enter Tryd.func10, Tryd.ntmps10
    go_wp2
    go_ret
    exact ⟨by rw [He.out]; rfl, bx⟩
  case false =>
  cases h200 : decide ((200 : Int) < (tx.length : Nat))
  case true =>
    have He := hid (show r = false by rw [Hr.out]; unfold plFew; rw [show decide (tx.length ≤ 200) = false by have := of_decide_eq_true h200; simp; omega]; simp)
    go_enter Tryd.func10, Tryd.ntmps10
    go_wp2
    go_ret
    exact ⟨by rw [He.out]; rfl, bx⟩
  case false =>
  have HR := hid (show r = tx.all fewT by
    rw [Hr.out]; unfold plFew
    rw [show decide (sy.length ≤ 40) = true by have := of_decide_eq_false h40; simp; omega, show decide (tx.length ≤ 200) = true by have := of_decide_eq_false h200; simp; omega]
    simp)
  go_enter Tryd.func10, Tryd.ntmps10
  go_wp2_with fail
  generalize hW : (w.alloc (.cells #[.slice pa sy.length ca, .slice pb tx.length cb] 27)) = W1 at *
  have HB1 := hid bx
  clear h40 h200 z0 z1 hW bx
  go_loopw [18] (fun i wr => ∃ k : Nat, k ≤ tx.length ∧ i = .int .i64 (k : Nat) ∧ Hid ((tx.take k).any (fun x => !fewT x) = false) ∧ Hid (Below W1.heap.size W1 wr)) (fun i _ => tx.length - (intOf i).toNat)
  case atStart => exact ⟨0, Nat.zero_le _, rfl, hid rfl, hid (Below.refl _ _)⟩
  case round =>
    obtain ⟨k, hk, rfl, hany, Hb⟩ := hrel
    have Hbw := hid (bel_go Hb.out HB1.out)
    by_cases hlt : k < tx.length
    · have hlt' : (k : Int) < (tx.length : Nat) := by omega
      obtain ⟨bb, off, rfl, j1, j2⟩ := Hb4.out (by omega)
      obtain ⟨c0, c1, c2, c3, c4, m0, m1, m2, m3, m4, hx⟩ := j2 k hlt
      have m0 := (Hbw.out.cell (p := ⟨bb, off + k * 5, none⟩) j1).trans m0
      have m1 := (Hbw.out.cell (p := ⟨bb, off + k * 5 + 1, none⟩) j1).trans m1
      have m2 := (Hbw.out.cell (p := ⟨bb, off + k * 5 + 2, none⟩) j1).trans m2
      have m3 := (Hbw.out.cell (p := ⟨bb, off + k * 5 + 3, none⟩) j1).trans m3
      have m4 := (Hbw.out.cell (p := ⟨bb, off + k * 5 + 4, none⟩) j1).trans m4
      have Hs1 := hid (any_take_succ (fun x => !fewT x) tx k hlt hany.out)
      have Hs2 := hid (any_of_at (fun x => !fewT x) tx k hlt)
      generalize tx[k] = x at *
      obtain ⟨pe, ce, pm, cm, ea, ⟨_, _, e5, k1, k2, -, -⟩, ⟨_, _, e6, k3, k4, -, -⟩, -⟩ := hx
      have ea' := agg5 ea
      obtain ⟨rfl, rfl, rfl, rfl, rfl⟩ := ea'
      cases e5; cases e6
      unfold maxLen at k2 k4
      have bt := below1 wr (.cells #[.int .i64 x.op, .slice pe x.args.length ce, .bool x.neg, .slice pm x.words.length cm, .int .i64 x.sym] 39)
      have Hbt := hid (Hb.out.trans (bt.mono Hb.out.size))
      clear j2 hany ea bt
      cases h70 : decide ((70 : Int) < (x.args.length : Nat))
      · cases h8 : decide ((8 : Int) < (x.words.length : Nat))
        · have Hf := hid (show (!fewT x) = false by
            unfold fewT
            rw [show decide (x.args.length ≤ 70) = true by have := of_decide_eq_false h70; simp; omega, show decide (x.words.length ≤ 8) = true by have := of_decide_eq_false h8; simp; omega]; rfl)
          go_wp2_with fail
          go_roundw
          case rel => exact ⟨k + 1, by omega, rfl, hid (Hs1.out Hf.out), Hbt⟩
          case measure => simp [intOf]; omega
        · have Hf := hid (show r = false by
            rw [HR.out, List.all_eq_not_any_not, Hs2.out (by
              show (!fewT x) = true
              unfold fewT
              rw [show decide (x.words.length ≤ 8) = false by have := of_decide_eq_true h8; simp; omega]; simp)]; rfl)
          go_wp2_with fail
          go_ret
          exact ⟨by rw [Hf.out]; rfl, bel_go Hbt.out HB1.out⟩
      · have Hf := hid (show r = false by
          rw [HR.out, List.all_eq_not_any_not, Hs2.out (by
            show (!fewT x) = true
            unfold fewT
            rw [show decide (x.args.length ≤ 70) = false by have := of_decide_eq_true h70; simp; omega]; simp)]; rfl)
        go_wp2_with fail
        go_ret
        exact ⟨by rw [Hf.out]; rfl, bel_go Hbt.out HB1.out⟩
    · have hkk : k = tx.length := by omega
      subst hkk
      have Hf := hid (show r = true by rw [HR.out, List.all_eq_not_any_not]; have := hany.out; rw [List.take_length] at this; rw [this]; rfl)
      go_wp2_with fail
      go_ret
      exact ⟨by rw [Hf.out]; rfl, Hbw.out⟩
theorem few_tm {sy : List Sy} {tx : List Tx} (h : plFew sy tx = true) : ∀ x ∈ tx, x.args.length ≤ 70 ∧ x.words.length ≤ 8 := by
  unfold plFew at h
  simp only [Bool.and_eq_true, List.all_eq_true] at h
  intro x hx
  have := h.2 x hx
  unfold fewT at this
  simpa using this
theorem few_sz (x : Tx) (h : x.words.length ≤ 8) (hs : Small W x.words) : sz W x.tm.num.natAbs ≤ 8 := by
  show sz W (sg x.neg (val W x.words)).natAbs ≤ 8
  rw [sg_natAbs]
  exact Nat.le_trans (sz_val W2 hs) h
theorem TxsIn.small {w : World} {v : Value} {l : List Tx} (h : TxsIn w v l) : ∀ x ∈ l, Small W x.words := by
  obtain ⟨p, cap, rfl, h1, h2, h3, h4⟩ := h
  intro x hx
  obtain ⟨i, hi, rfl⟩ := List.mem_iff_getElem.1 hx
  obtain ⟨b, off, -, -, hc⟩ := h4 (by omega)
  obtain ⟨c0, c1, c2, c3, c4, -, -, -, -, -, ⟨_, _, _, _, _, _, _, hs⟩⟩ := hc i hi
  exact hs
set_option maxRecDepth 100000 in
set_option maxHeartbeats 12800000 in
theorem lawChecks_any (va vb : Value) (sy : List Sy) (tx : List Tx) (w : World) (htab : Tb w.heap.size w) (hs : SyIn w va sy) (ht : TxsIn w vb tx) (hn : ∀ s ∈ sy, s.name.length ≤ 281474976710656) :
    Calls Tryd.prog 5 #[.agg #[va, vb]] w (RBool true w) := by
  have Hs := hid hs; have Ht := hid ht; have Htab := hid htab
  have hsm := ht.small
  obtain ⟨pa, ca, rfl, -, -, -, -⟩ := hs
  obtain ⟨pb, cb, rfl, -, -, -, -⟩ := ht
  have bx := below1 w (.cells #[.slice pa sy.length ca, .slice pb tx.length cb] 27)
  have hx0 := heap_alloc_new w (.cells #[.slice pa sy.length ca, .slice pb tx.length cb] 27)
  have Hfx := hid (fixed_any w.heap.size _ bx.size (Lib.TabBelow.on htab bx))
  have hz := size_alloc w (.cells #[.slice pa sy.length ca, .slice pb tx.length cb] 27)
  clear htab
  go_enter Tryd.func5, Tryd.ntmps5
  go_wp2_with fail
  generalize hW : (w.alloc (.cells #[.slice pa sy.length ca, .slice pb tx.length cb] 27)) = W1 at *
  clear hW
  refine Hfx.out.mono ?_
  rintro e w2 ⟨rfl, b2⟩
  have hx2 := (b2.block w.heap.size (by omega)).trans hx0
  have bw2 := bel_go b2 bx
  have hz2 := b2.size
  have q := two_cells hx2
  have Hfew := hid (RFew_any _ _ sy tx w2 (Hs.out.below bw2) (Ht.out.below bw2))
  have Hb2 := hid bw2
  obtain ⟨z0, z1, -, -⟩ := q
  clear b2 bx hx0 Hfx bw2
  go_wp2_with fail
  refine Hfew.out.mono ?_
  rintro e w3 ⟨rfl, b3⟩
  clear z0 z1 Hfew
  have hx3 := (b3.block w.heap.size (by omega)).trans hx2
  have Hb3 := hid (bel_go b3 Hb2.out)
  have hz3 := b3.size
  clear b3 hx2
  cases hfew : plFew sy tx
  case false =>
    go_wp2
    go_ret
    exact ⟨rfl, Hb3.out⟩
  case true =>
  have hft := few_tm hfew
  have htm := Ht.out.tms fun x hx => Nat.le_trans (hft x hx).2 (by decide)
  have Hck := hid (fun w' (hb : Below w3.heap.size w3 w') => Check_any w.heap.size _ _ sy (tx.map Tx.tm) w' (bel_go hb Hb3.out).size (Lib.TabBelow.on Htab.out (bel_go hb Hb3.out)) (Hs.out.below (bel_go hb Hb3.out)) (htm.below (bel_go hb Hb3.out)) hn (fun t h => by
    obtain ⟨x, hx, rfl⟩ := List.mem_map.1 h
    exact Nat.le_trans (hft x hx).1 (by decide)))
  have Hrk := hid (fun w' (hb : Below w3.heap.size w3 w') => RCheck_any _ _ sy (tx.map Tx.tm) w' (Hs.out.below (bel_go hb Hb3.out)) (htm.below (bel_go hb Hb3.out)) (fun t h => by
    obtain ⟨x, hx, rfl⟩ := List.mem_map.1 h
    exact Nat.le_trans (few_sz x (hft x hx).2 (hsm x hx)) (by decide)))
  have Hx3 := hid hx3
  clear hft htm hfew hx3 hn hsm
  generalize plCheck sy (tx.map Tx.tm) = er at *
  have HS : Hid (∀ w', Below w3.heap.size w3 w' → w'.cell? ⟨w.heap.size, 0, none⟩ = some (.slice pa sy.length ca) ∧ w'.cell? ⟨w.heap.size, 1, none⟩ = some (.slice pb tx.length cb) ∧ Below w3.heap.size w3 w') := hid fun w' hb =>
    ⟨(two_cells ((hb.block w.heap.size (by omega)).trans Hx3.out)).1, (two_cells ((hb.block w.heap.size (by omega)).trans Hx3.out)).2.1, hb⟩
  go_upto_region 5 with fail
  go_region_held3 (fun w' => w'.cell? ⟨w.heap.size, 0, none⟩ = some (.slice pa sy.length ca) ∧ w'.cell? ⟨w.heap.size, 1, none⟩ = some (.slice pb tx.length cb) ∧ Below w3.heap.size w3 w')
    (first | exact HS.out _ (Below.drew (Below.refl _ _)) | (refine HS.out _ (bel_go hb ?_); go_split_ands; assumption))
    (first
      | (go_at_call 22; (with_reducible refine (Hck.out _ (by go_split_ands; assumption)).mono ?_); rintro e wa ⟨rfl, hb⟩)
      | (go_at_call 23; (with_reducible refine (Hrk.out _ (by go_split_ands; assumption)).mono ?_); rintro e wb ⟨rfl, hb⟩))
  go_split_ands
  have HBb := hid (show Below w3.heap.size w3 wb by assumption)
  clear hb
  go_wp2
  go_ret
  exact ⟨by simp, bel_go HBb.out Hb3.out⟩
end Go.Proofs.YtmdkfpidohcafaaDoor
