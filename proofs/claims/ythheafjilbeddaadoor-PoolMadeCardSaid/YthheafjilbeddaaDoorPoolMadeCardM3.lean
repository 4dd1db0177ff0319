/- Texts put together: PlRef, PlRef2, PlRef3, PlRef4, FromOwn, RefOwn, PlSame, PlRef5, PlRef6, MkMath, MkRef, HalfTrim, Split, DivShort, Join, TimesPlus, TimesHalves, TimesWalk, RefTimes, DivSmall, Same, Few, Copied, Copies, Times, RefMul, MkTape, MkNum. -/
import Derived.Test.YthheafjilbeddaaDoorPoolMadeCardM2
import Derived.Deep.DeepCutAuto
import Derived.Maps.AppendAt
import Derived.BigQuiet
import Derived.Deep.QuietTactic
import Derived.Laws.BitsAll
import Derived.Deep.RegionHeld3
import Derived.Deep.AppendLies
/- elenchusref04.Sort, counts: over rows that may be. -/
namespace Go.Proofs.YthheafjilbeddaaDoor
open Go.RowKit Big Go.WideMaps

/-- rows of which each term was made over those ahead -/
def PoGood (p : Po) : Prop := p.sorts.length = p.terms.length ∧ p.terms.length ≤ 4096 ∧ p.syms.length ≤ 256 ∧ ∀ k (h : k < p.terms.length), (p.terms[k].op = 4 → ∃ j : Nat, p.terms[k].sym = (j : Nat) ∧ j < p.syms.length) ∧ (p.terms[k].op = 9 → ∃ (h1 : 1 < p.terms[k].args.length) (j : Nat), p.terms[k].args[1] = (j : Nat) ∧ j < k) ∧
  1 ≤ p.terms[k].op ∧ p.terms[k].op ≤ 13 ∧ plSortAt p (k : Nat) = plSort p p.terms[k]
/-- rows that are handed in -/
def RwIn (w : World) (v : Value) (s : List Sy) (t : List Tm) : Prop := ∃ a b, v = .agg #[a, b] ∧ SyIn w a s ∧ TmsIn w b t
theorem RwIn.below {w w' : World} {v : Value} {s : List Sy} {t : List Tm} (h : RwIn w v s t) (hb : Below w.heap.size w w') : RwIn w' v s t := by
  obtain ⟨a, b, e, h1, h2⟩ := h
  exact ⟨a, b, e, h1.below hb, h2.below hb⟩
theorem plSort_three (p : Po) (t : Tm) (h : t.op = 3 ∨ t.op = 12 ∨ t.op = 13) : plSort p t = 2 := by
  unfold plSort
  rcases h with h | h | h <;> rw [if_neg (by omega), if_neg (by omega), h] <;> rfl
theorem plSort_bool (p : Po) (t : Tm) (h1 : 1 ≤ t.op) (h2 : t.op ≤ 13) (h3 : t.op ≠ 3) (h4 : t.op ≠ 4) (h9 : t.op ≠ 9) (h12 : t.op ≠ 12) (h13 : t.op ≠ 13) : plSort p t = 1 := by
  unfold plSort
  rw [if_neg h4, if_neg h9]
  have : t.op = 1 ∨ t.op = 2 ∨ t.op = 5 ∨ t.op = 6 ∨ t.op = 7 ∨ t.op = 8 ∨ t.op = 10 ∨ t.op = 11 := by omega
  rcases this with h | h | h | h | h | h | h | h <;> rw [h] <;> rfl
set_option maxRecDepth 100000 in
set_option maxHeartbeats 12800000 in
theorem RSort_any (p : Po) (hp : PoGood p) : ∀ (k : Nat) (v : Value) (w : World), RwIn w v p.syms p.terms → k < p.terms.length → Calls Tryd.prog 17 #[v, .int .i64 (k : Nat)] w (RNum .i64 (plSortAt p (k : Nat)) w) := by
  intro k
  induction k using Nat.strongRecOn with
  | _ k ih =>
  intro v w hr hk
  have Hr := hid hr
  obtain ⟨va, vb, rfl, hs, ht⟩ := hr
  obtain ⟨h4, h9, hlo, hhi, hso⟩ := hp.2.2.2 k hk
  obtain ⟨pa, ca, rfl, a1, a2, a3, a4⟩ := hs
  obtain ⟨pb, cb, rfl, b1, b2, b3, b4⟩ := ht
  obtain ⟨bb, off, rfl, j1, j2⟩ := b4 (by omega)
  obtain ⟨c0, c1, c2, c3, c4, m0, m1, m2, m3, m4, hraw⟩ := j2 k hk
  have hkl : (k : Int) < (p.terms.length : Nat) := by omega
  rw [hso]
  obtain ⟨x, hx⟩ : ∃ x, x = p.terms[k] := ⟨_, rfl⟩
  rw [← hx] at hraw h4 h9 hlo hhi ⊢
  obtain ⟨pc, cc, b, pm, nm, cm, ea, hargs, -⟩ := hraw
  simp only [Value.agg.injEq, Array.mk.injEq, List.cons.injEq, and_true] at ea
  obtain ⟨rfl, rfl, rfl, rfl, rfl⟩ := ea
  have Hx := hid hx
  clear hx
  obtain ⟨op, ar, nu, sy⟩ := x
  dsimp only at *
  have bx := below1 w (.cells #[.slice pa p.syms.length ca, .slice (some ⟨bb, off, none⟩) p.terms.length cb] 27)
  have hx0 := heap_alloc_new w (.cells #[.slice pa p.syms.length ca, .slice (some ⟨bb, off, none⟩) p.terms.length cb] 27)
  have q := two_cells hx0
  obtain ⟨q0, q1, -, -⟩ := q
  have hz := size_alloc w (.cells #[.slice pa p.syms.length ca, .slice (some ⟨bb, off, none⟩) p.terms.length cb] 27)
  have m0 := (bx.cell (p := ⟨bb, off + k * 5, none⟩) j1).trans m0
  have m1 := (bx.cell (p := ⟨bb, off + k * 5 + 1, none⟩) j1).trans m1
  have m2 := (bx.cell (p := ⟨bb, off + k * 5 + 2, none⟩) j1).trans m2
  have m3 := (bx.cell (p := ⟨bb, off + k * 5 + 3, none⟩) j1).trans m3
  have m4 := (bx.cell (p := ⟨bb, off + k * 5 + 4, none⟩) j1).trans m4
  have by_ := below1 (w.alloc (.cells #[.slice pa p.syms.length ca, .slice (some ⟨bb, off, none⟩) p.terms.length cb] 27)) (.cells #[.int .i64 op, .slice pc ar.length cc, .bool b, .slice pm nm cm, .int .i64 sy] 39)
  have hy0 := heap_alloc_new (w.alloc (.cells #[.slice pa p.syms.length ca, .slice (some ⟨bb, off, none⟩) p.terms.length cb] 27)) (.cells #[.int .i64 op, .slice pc ar.length cc, .bool b, .slice pm nm cm, .int .i64 sy] 39)
  rw [hz] at hy0
  have hx1 := (by_.block w.heap.size (by omega)).trans hx0
  have bw := bel_go by_ bx
  have qy := five_cells hy0
  have q1' := two_cells hx1
  unfold maxLen at b2 a2
  clear hso j2 b4 hx0 hy0 hx1 b3 a3
  by_cases c3 : op = 3 ∨ op = 12 ∨ op = 13
  · have hsr := plSort_three p ⟨op, ar, nu, sy⟩ c3
    rw [hsr]
    obtain ⟨y0, -, -, -, -⟩ := qy
    clear hsr a4 h4 h9 hargs q1' Hr ih
    clear hlo hhi
    rcases c3 with rfl | rfl | rfl
    all_goals
      go_enter Tryd.func17, Tryd.ntmps17
      go_wp2
      go_ret
      exact ⟨rfl, bw⟩
  · by_cases c4 : op = 4
    · obtain ⟨j, hj, hjl⟩ := h4 c4
      obtain ⟨ba, offa, rfl, k1, k2⟩ := a4 (by omega)
      have n2 := (k2 j hjl).2.2
      have hjl' : (j : Int) < (p.syms.length : Nat) := by omega
      have n2 := (bw.cell (p := ⟨ba, offa + j * 3 + 2, none⟩) k1).trans n2
      have hsr : plSort p ⟨op, ar, nu, sy⟩ = p.syms[j].sort := by
        unfold plSort plSymAt
        rw [if_pos c4, hj]
        simp [hjl]
      rw [hsr]
      clear hsr h4 h9 c3 hlo hhi Hx
      subst c4 hj
      obtain ⟨y0, -, -, -, y4⟩ := qy
      obtain ⟨z0, z1, -, -⟩ := q1'
      clear a4 k2 hargs Hr ih
      generalize p.syms[j].sort = so at *
      go_enter Tryd.func17, Tryd.ntmps17
      go_wp2
      go_ret
      exact ⟨rfl, bw⟩
    · by_cases c9 : op = 9
      · obtain ⟨hl1, j, hj, hjk⟩ := h9 c9
        obtain ⟨pc', cc', e, i1, i2, i3, i4⟩ := hargs
        cases e
        obtain ⟨bc, offc, rfl, o1, o2⟩ := i4 (by omega)
        have n1 := o2 1 hl1
        rw [hj] at n1
        have n1 := (bw.cell (p := ⟨bc, offc + 1, none⟩) o1).trans n1
        have hl1' : (1 : Int) < (ar.length : Nat) := by omega
        have hih := fun W (hW : Below w.heap.size w W) => ih j hjk _ W (Hr.out.below hW) (by omega)
        have Hih := hid hih
        have hsr : plSort p ⟨op, ar, nu, sy⟩ = plSortAt p (j : Nat) := by
          unfold plSort
          rw [if_neg c4, if_pos c9, List.getElem?_eq_getElem hl1, hj]
          rfl
        rw [hsr]
        clear hsr h4 h9 c3 c4 hlo hhi Hx
        subst c9
        obtain ⟨y0, y1, -, -, -⟩ := qy
        obtain ⟨z0, z1, -, -⟩ := q1'
        clear o2 i4 Hr ih hj hih a4 i3
        go_enter Tryd.func17, Tryd.ntmps17
        go_upto_region 10 with fail
        generalize hW : ((w.alloc (.cells #[.slice pa p.syms.length ca, .slice (some ⟨bb, off, none⟩) p.terms.length cb] 27)).alloc (.cells #[.int .i64 9, .slice (some ⟨bc, offc, none⟩) ar.length cc, .bool b, .slice pm nm cm, .int .i64 sy] 39)) = W2 at *
        clear hW
        have hz2 := by_.size
        have HS : Hid (∀ w', Below W2.heap.size W2 w' → w'.cell? ⟨w.heap.size, 0, none⟩ = some (.slice pa p.syms.length ca) ∧ w'.cell? ⟨w.heap.size, 1, none⟩ = some (.slice (some ⟨bb, off, none⟩) p.terms.length cb) ∧ w'.cell? ⟨w.heap.size + 1, 1, none⟩ = some (.slice (some ⟨bc, offc, none⟩) ar.length cc) ∧ w'.cell? ⟨bc, offc + 1, none⟩ = some (.int .i64 (j : Nat))) := hid fun w' hb =>
          ⟨(hb.cell (p := ⟨w.heap.size, 0, none⟩) (World.block_lt_of_cell? _ _ z0)).trans z0, (hb.cell (p := ⟨w.heap.size, 1, none⟩) (World.block_lt_of_cell? _ _ z1)).trans z1, (hb.cell (p := ⟨w.heap.size + 1, 1, none⟩) (World.block_lt_of_cell? _ _ y1)).trans y1, (hb.cell (p := ⟨bc, offc + 1, none⟩) (World.block_lt_of_cell? _ _ n1)).trans n1⟩
        clear z0 z1 y0 y1 n1 m0 m1 m2 m3 m4 q0 q1
        refine wp_region_facts (w0 := W2) 7 0 [28, 29, 30, 31, 32, 33, 4] [undef, undef, undef, undef, undef, undef, .int .i64 0]
          (fun i => match i with | 0 => eqD (.agg #[.slice pa p.syms.length ca, .slice (some ⟨bb, off, none⟩) p.terms.length cb]) | 1 => eqD (.pointer (some ⟨w.heap.size + 1, 1, none⟩)) | 2 => eqD (.slice (some ⟨bc, offc, none⟩) ar.length cc) | 3 => eqD (.pointer (some ⟨bc, offc + 1, none⟩)) | 4 => eqD (.int .i64 (j : Nat)) | 5 => eqD (.int .i64 (plSortAt p (j : Nat))) | _ => eqD (.int .i64 (plSortAt p (j : Nat)))) [] (by kernel_rfl) (by kernel_rfl) (by kernel_rfl) (by kernel_rfl) (by decide) rfl (by kernel_rfl) rfl (by simp) ?he1 ?_ ?_ ?_
        case he1 => simp only [putAll, Act.put, List.setIfInBounds_toArray, List.set_cons_zero, List.set_cons_succ]
        · intro i hi; simp at hi
        · intro i o hi ho vs wx hvl hb hdep K hK
          have hvs := vlen7 hvl
          obtain ⟨s28, s29, s30, s31, s32, s33, s4, rfl⟩ := hvs
          clear hvl
          have hk := HS.out wx hb
          go_split_ands
          rcases i with _ | _ | _ | _ | _ | _ | _ | i
          all_goals (simp only [List.getElem?_toArray, List.getElem?_cons_zero, List.getElem?_cons_succ, Option.some.injEq] at ho)
          all_goals try (subst ho)
          all_goals try simp only [putAll, Act.put, List.setIfInBounds_toArray, List.set_cons_zero, List.set_cons_succ]
          · go_simp
            have hK' := hK.out
            simp only [putAll, Act.put, List.setIfInBounds_toArray, List.set_cons_zero, List.set_cons_succ] at hK'
            exact hK' _ _ rfl (Below.refl _ _) (by simp)
          · go_simp
            have hK' := hK.out
            simp only [putAll, Act.put, List.setIfInBounds_toArray, List.set_cons_zero, List.set_cons_succ] at hK'
            exact hK' _ _ rfl (Below.refl _ _) (by simp)
          · have e1 : s29 = _ := hdep ⟨1, .data⟩ (by simp) rfl
            have e1 := e1.symm
            subst e1
            go_simp
            have hK' := hK.out
            simp only [putAll, Act.put, List.setIfInBounds_toArray, List.set_cons_zero, List.set_cons_succ] at hK'
            exact hK' _ _ rfl (Below.refl _ _) (by simp)
          · have e2 : s30 = _ := hdep ⟨2, .data⟩ (by simp) rfl
            have e2 := e2.symm
            subst e2
            go_simp
            have hK' := hK.out
            simp only [putAll, Act.put, List.setIfInBounds_toArray, List.set_cons_zero, List.set_cons_succ] at hK'
            exact hK' _ _ rfl (Below.refl _ _) (by simp)
          · have e3 : s31 = _ := hdep ⟨3, .data⟩ (by simp) rfl
            have e3 := e3.symm
            subst e3
            go_simp
            have hK' := hK.out
            simp only [putAll, Act.put, List.setIfInBounds_toArray, List.set_cons_zero, List.set_cons_succ] at hK'
            exact hK' _ _ rfl (Below.refl _ _) (by simp)
          · have e0 : s28 = _ := hdep ⟨0, .data⟩ (by simp) rfl
            have e0 := e0.symm
            subst e0
            have e4 : s32 = _ := hdep ⟨4, .data⟩ (by simp) rfl
            have e4 := e4.symm
            subst e4
            go_simp
            go_simp
            refine (Hih.out _ (bel_go hb bw)).mono ?_
            rintro e wy ⟨rfl, hby⟩
            go_wp2_with fail
            have hK' := hK.out
            simp only [putAll, Act.put, List.setIfInBounds_toArray, List.set_cons_zero, List.set_cons_succ] at hK'
            exact hK' _ _ rfl hby (by simp)
          · have e5 : s33 = _ := hdep ⟨5, .data⟩ (by simp) rfl
            have e5 := e5.symm
            subst e5
            go_simp
            have hK' := hK.out
            simp only [putAll, Act.put, List.setIfInBounds_toArray, List.set_cons_zero, List.set_cons_succ] at hK'
            exact hK' _ _ rfl (Below.refl _ _) (by simp)
          · omega
        · intro vs wx hvl hb hf hdist
          have hvs := vlen7 hvl
          obtain ⟨s28, s29, s30, s31, s32, s33, s4, rfl⟩ := hvs
          have f6 : s4 = .int .i64 (plSortAt p (j : Nat)) := hf 6 (by decide)
          subst f6
          clear hf hdist hvl
          refine wpAny_done (by kernel_rfl) ?_ _
          simp only [putAll, Act.put, List.setIfInBounds_toArray, List.set_cons_zero, List.set_cons_succ]
          have hfin := bel_go hb bw
          go_wp2
          go_ret
          exact ⟨rfl, hfin⟩
      · have hsr := plSort_bool p ⟨op, ar, nu, sy⟩ hlo hhi (by show op ≠ 3; omega) c4 c9 (by show op ≠ 12; omega) (by show op ≠ 13; omega)
        rw [hsr]
        obtain ⟨y0, -, -, -, -⟩ := qy
        clear hsr a4 h4 h9 hargs q1' Hr ih
        have d3 : (op == 3) = false := by simp; omega
        have d12 : (op == 12) = false := by simp; omega
        have d13 : (op == 13) = false := by simp; omega
        have d4 : (op == 4) = false := by simp; omega
        have d9 : (op == 9) = false := by simp; omega
        clear c3 c4 c9
        go_enter Tryd.func17, Tryd.ntmps17
        go_wp2
        go_ret
        exact ⟨rfl, bw⟩
end Go.Proofs.YthheafjilbeddaaDoor
/- elenchusref04.counts. -/
namespace Go.Proofs.YthheafjilbeddaaDoor
open Go.RowKit Big Go.WideMaps

def plLeast (p : Po) (t : Tm) : Int := if t.op = 4 then (plSymAt p t.sym).arity else (plRu t.op).least
def plMost (p : Po) (t : Tm) : Int := if t.op = 4 then (plSymAt p t.sym).arity else (plRu t.op).most
set_option maxRecDepth 100000 in
set_option maxHeartbeats 12800000 in
theorem counts_any (p : Po) (t : Tm) (v vt : Value) (w : World) (hr : RwIn w v p.syms p.terms) (ht : TmRaw w vt t) (hlo : 1 ≤ t.op) (hhi : t.op ≤ 13) (hs : plNoSym p t = false) :
    Calls Tryd.prog 56 #[v, vt] w (RTwo (plLeast p t) (plMost p t) w) := by
  obtain ⟨va, vb, rfl, hs', ht'⟩ := hr
  obtain ⟨pa, ca, rfl, a1, a2, a3, a4⟩ := hs'
  obtain ⟨pb, cb, rfl, -, -, -, -⟩ := ht'
  obtain ⟨pc, cc, b, pm, nm, cm, rfl, -, -⟩ := ht
  have bx := below1 w (.cells #[.slice pa p.syms.length ca, .slice pb p.terms.length cb] 27)
  have hx0 := heap_alloc_new w (.cells #[.slice pa p.syms.length ca, .slice pb p.terms.length cb] 27)
  have hz := size_alloc w (.cells #[.slice pa p.syms.length ca, .slice pb p.terms.length cb] 27)
  have by_ := below1 (w.alloc (.cells #[.slice pa p.syms.length ca, .slice pb p.terms.length cb] 27)) (.cells #[.int .i64 t.op, .slice pc t.args.length cc, .bool b, .slice pm nm cm, .int .i64 t.sym] 39)
  have hy0 := heap_alloc_new (w.alloc (.cells #[.slice pa p.syms.length ca, .slice pb p.terms.length cb] 27)) (.cells #[.int .i64 t.op, .slice pc t.args.length cc, .bool b, .slice pm nm cm, .int .i64 t.sym] 39)
  rw [hz] at hy0
  have hx1 := (by_.block w.heap.size (by omega)).trans hx0
  have bw := bel_go by_ bx
  have qy := five_cells hy0
  have qx := two_cells hx1
  obtain ⟨y0, -, -, -, y4⟩ := qy
  obtain ⟨z0, -, -, -⟩ := qx
  unfold maxLen at a2
  clear hx0 hy0 hx1 a3 hz by_
  obtain ⟨op, ar, nu, sy⟩ := t
  dsimp only at *
  by_cases c4 : op = 4
  · subst c4
    have hsy : ∃ j : Nat, sy = (j : Nat) ∧ j < p.syms.length := by
      unfold plNoSym at hs
      simp at hs
      exact ⟨sy.toNat, by omega, by omega⟩
    obtain ⟨j, rfl, hjl⟩ := hsy
    obtain ⟨ba, offa, rfl, k1, k2⟩ := a4 (by omega)
    have n1 := (k2 j hjl).2.1
    have n1 := (bw.cell (p := ⟨ba, offa + j * 3 + 1, none⟩) k1).trans n1
    have hjl' : (j : Int) < (p.syms.length : Nat) := by omega
    have hl : plLeast p ⟨4, ar, nu, (j : Nat)⟩ = p.syms[j].arity := by unfold plLeast plSymAt; simp [hjl]
    have hm : plMost p ⟨4, ar, nu, (j : Nat)⟩ = p.syms[j].arity := by unfold plMost plSymAt; simp [hjl]
    rw [hl, hm]
    clear hl hm k2 a4 hs bx
    generalize p.syms[j].arity = n at *
    go_enter Tryd.func56, Tryd.ntmps56
    go_wp2_with fail
    go_quiet (fail)
    go_wp2
    go_ret2
    exact ⟨rfl, below_drewN bw _⟩
  · clear a4 hs bx z0
    have hc : op = 1 ∨ op = 2 ∨ op = 3 ∨ op = 5 ∨ op = 6 ∨ op = 7 ∨ op = 8 ∨ op = 9 ∨ op = 10 ∨ op = 11 ∨ op = 12 ∨ op = 13 := by omega
    clear hlo hhi c4
    rcases hc with rfl | rfl | rfl | rfl | rfl | rfl | rfl | rfl | rfl | rfl | rfl | rfl
    all_goals
      go_enter Tryd.func56, Tryd.ntmps56
      go_wp2
      go_ret2
      exact ⟨rfl, bw⟩
end Go.Proofs.YthheafjilbeddaaDoor
/- elenchusref04.CheckTerm. -/
namespace Go.Proofs.YthheafjilbeddaaDoor
open Go.RowKit Big Go.WideMaps

theorem wrong_form {p : Po} {t : Tm} (h : plBadForm t = true) : plWrong p t = 6 := by unfold plWrong; rw [if_pos h]
theorem wrong_sym {p : Po} {t : Tm} (h : plBadForm t = false) (h1 : plNoSym p t = true) : plWrong p t = 7 := by unfold plWrong; rw [if_neg (by simp [h]), if_pos h1]
theorem wrong_part {p : Po} {t : Tm} (h : plBadForm t = false) (h1 : plNoSym p t = false) (h2 : plNoPart p t = true) : plWrong p t = 1 := by unfold plWrong; rw [if_neg (by simp [h]), if_neg (by simp [h1]), if_pos h2]
theorem wrong_count {p : Po} {t : Tm} (h : plBadForm t = false) (h1 : plNoSym p t = false) (h2 : plNoPart p t = false) (h3 : plBadCount p t = true) : plWrong p t = 9 := by unfold plWrong; rw [if_neg (by simp [h]), if_neg (by simp [h1]), if_neg (by simp [h2]), if_pos h3]
theorem wrong_sort {p : Po} {t : Tm} (h : plBadForm t = false) (h1 : plNoSym p t = false) (h2 : plNoPart p t = false) (h3 : plBadCount p t = false) (h4 : plBadSort p t = true) : plWrong p t = 8 := by unfold plWrong; rw [if_neg (by simp [h]), if_neg (by simp [h1]), if_neg (by simp [h2]), if_neg (by simp [h3]), if_pos h4]
theorem wrong_none {p : Po} {t : Tm} (h : plBadForm t = false) (h1 : plNoSym p t = false) (h2 : plNoPart p t = false) (h3 : plBadCount p t = false) (h4 : plBadSort p t = false) : plWrong p t = 0 := by unfold plWrong; rw [if_neg (by simp [h]), if_neg (by simp [h1]), if_neg (by simp [h2]), if_neg (by simp [h3]), if_neg (by simp [h4])]
/-- the reference's first two tests, in its words -/
def rfForm (t : Tm) : Bool := (t.op != 3 && t.op != 13 && t.num.sign != 0) || (t.op != 4 && t.sym != 0)
theorem rule_out {op : Int} (h : ¬ (1 ≤ op ∧ op ≤ 13)) : plRule op = none := by
  unfold plRule
  rw [if_neg (by omega), if_neg (by omega), if_neg (by omega), if_neg (by omega), if_neg (by omega), if_neg (by omega), if_neg (by omega), if_neg (by omega), if_neg (by omega), if_neg (by omega)]
theorem sign_ne (z : Int) : (z.sign != 0) = (z != 0) := by
  rcases Int.lt_trichotomy z 0 with h | h | h
  · rw [Int.sign_eq_neg_one_of_neg h]; simp; omega
  · rw [h]; rfl
  · rw [Int.sign_eq_one_of_pos h]; simp; omega
theorem badForm_in {t : Tm} (h0 : 1 ≤ t.op) (h1 : t.op ≤ 13) : plBadForm t = rfForm t := by
  unfold plBadForm rfForm
  rw [sign_ne]
  have hc : t.op = 1 ∨ t.op = 2 ∨ t.op = 3 ∨ t.op = 4 ∨ t.op = 5 ∨ t.op = 6 ∨ t.op = 7 ∨ t.op = 8 ∨ t.op = 9 ∨ t.op = 10 ∨ t.op = 11 ∨ t.op = 12 ∨ t.op = 13 := by omega
  rcases hc with h | h | h | h | h | h | h | h | h | h | h | h | h <;> rw [h] <;> simp [plRu, plRule]
theorem badForm_out {t : Tm} (h : ¬ (1 ≤ t.op ∧ t.op ≤ 13)) : plBadForm t = true := by
  unfold plBadForm
  rw [rule_out h]
  rfl
theorem badCount_eq (p : Po) (t : Tm) : plBadCount p t = (decide ((t.args.length : Int) < plLeast p t) || decide (plMost p t < (t.args.length : Int))) := by
  unfold plBadCount plLeast plMost
  split
  · rw [Bool.eq_iff_iff]; simp; omega
  · rfl
/-- what the reference wants of the part at place i -/
def rfWant (p : Po) (t : Tm) (i : Nat) : Int := if t.op = 4 ∨ t.op = 10 ∨ t.op = 11 ∨ t.op = 12 ∨ t.op = 13 then 2 else if t.op = 9 ∧ 0 < i then plSortAt p (t.args[1]?.getD 0) else 1
theorem want_eq (p : Po) (t : Tm) (i : Nat) (h0 : 1 ≤ t.op) (h1 : t.op ≤ 13) (hc : plBadCount p t = false) (hi : i < t.args.length) : plPart p t i = rfWant p t i := by
  unfold plPart rfWant
  have hn : ¬ (t.op = 1 ∨ t.op = 2 ∨ t.op = 3) := fun h => by
    unfold plBadCount at hc
    rw [if_neg (by omega)] at hc
    simp at hc
    have h2 := hc.2
    have : (plRu t.op).most = 0 := by rcases h with h | h | h <;> rw [h] <;> rfl
    omega
  by_cases h9 : t.op = 9
  · rw [h9]
    by_cases hp : 0 < i
    · simp [hp]
    · simp [hp, plRu, plRule]
  · rw [if_neg (fun h => h9 h.1), if_neg (c := t.op = 9 ∧ 0 < i) (fun h => h9 h.1)]
    have hcs : t.op = 4 ∨ t.op = 5 ∨ t.op = 6 ∨ t.op = 7 ∨ t.op = 8 ∨ t.op = 10 ∨ t.op = 11 ∨ t.op = 12 ∨ t.op = 13 := by omega
    rcases hcs with h | h | h | h | h | h | h | h | h <;> rw [h] <;> rfl
end Go.Proofs.YthheafjilbeddaaDoor
/- elenchusref04.CheckTerm, walked. -/
namespace Go.Proofs.YthheafjilbeddaaDoor
open Go.RowKit Big Go.WideMaps

theorem part_in {p : Po} {t : Tm} (h : plNoPart p t = false) (i : Nat) (hi : i < t.args.length) : ∃ m : Nat, t.args[i] = (m : Nat) ∧ m < p.terms.length := by
  have h0 : plNoTerm p t.args[i] = false := by
    cases hx : plNoTerm p t.args[i] with
    | false => rfl
    | true =>
      have h2 : plNoPart p t = true := List.any_eq_true.2 ⟨_, List.getElem_mem hi, hx⟩
      rw [h] at h2
      cases h2
  unfold plNoTerm at h0
  simp at h0
  exact ⟨t.args[i].toNat, by omega, by omega⟩
set_option maxRecDepth 100000 in
set_option maxHeartbeats 25600000 in
theorem CheckTerm_any (p : Po) (hp : PoGood p) (t : Tm) (v vt : Value) (w : World) (hr : RwIn w v p.syms p.terms) (ht : TmRaw w vt t) :
    Calls Tryd.prog 34 #[v, vt] w (RNum .i64 (plWrong p t) w) := by
  have Hr := hid hr
  have Ht := hid ht
  obtain ⟨va, vb, rfl, hs', ht'⟩ := hr
  obtain ⟨pa, ca, rfl, a1, a2, a3, a4⟩ := hs'
  obtain ⟨pb, cb, rfl, -, b2, -, -⟩ := ht'
  obtain ⟨pc, cc, b, pm, nm, cm, rfl, hargs, hnum⟩ := ht
  have hsg := fun W (hW : Below w.heap.size w W) => RSign_any (.agg #[.bool b, .slice pm nm cm]) t.num W (hnum.below hW)
  have bx := below1 w (.cells #[.slice pa p.syms.length ca, .slice pb p.terms.length cb] 27)
  have hx0 := heap_alloc_new w (.cells #[.slice pa p.syms.length ca, .slice pb p.terms.length cb] 27)
  have hz := size_alloc w (.cells #[.slice pa p.syms.length ca, .slice pb p.terms.length cb] 27)
  have by_ := below1 (w.alloc (.cells #[.slice pa p.syms.length ca, .slice pb p.terms.length cb] 27)) (.cells #[.int .i64 t.op, .slice pc t.args.length cc, .bool b, .slice pm nm cm, .int .i64 t.sym] 39)
  have hy0 := heap_alloc_new (w.alloc (.cells #[.slice pa p.syms.length ca, .slice pb p.terms.length cb] 27)) (.cells #[.int .i64 t.op, .slice pc t.args.length cc, .bool b, .slice pm nm cm, .int .i64 t.sym] 39)
  have hz2 := size_alloc (w.alloc (.cells #[.slice pa p.syms.length ca, .slice pb p.terms.length cb] 27)) (.cells #[.int .i64 t.op, .slice pc t.args.length cc, .bool b, .slice pm nm cm, .int .i64 t.sym] 39)
  rw [hz] at hy0 hz2
  have hx1 := (by_.block w.heap.size (by omega)).trans hx0
  have bw := bel_go by_ bx
  have Hsg := hid hsg
  obtain ⟨r, hrr⟩ : ∃ r, r = plWrong p t := ⟨_, rfl⟩
  rw [← hrr]
  have Hrr := hid hrr
  have Hcn := hid (fun W (hW : Below w.heap.size w W) h0 h1 h2 => counts_any p t _ _ W (Hr.out.below hW) (Ht.out.below hW) h0 h1 h2)
  have Hso := hid (fun k W (hW : Below w.heap.size w W) (hk : k < p.terms.length) => RSort_any p hp k _ W (Hr.out.below hW) hk)
  have hlen := hp.2.1
  clear hsg bx hx0 by_ hnum hrr
  unfold maxLen at a2 b2
  go_enter Tryd.func34, Tryd.ntmps34
  go_upto_region 1 with fail
  generalize hW : ((w.alloc (.cells #[.slice pa p.syms.length ca, .slice pb p.terms.length cb] 27)).alloc (.cells #[.int .i64 t.op, .slice pc t.args.length cc, .bool b, .slice pm nm cm, .int .i64 t.sym] 39)) = W2 at *
  clear hW hz
  have HX := hid hx1; have HY := hid hy0
  obtain ⟨z0, z1, -, -⟩ := two_cells hx1
  obtain ⟨y0, y1, y2, y3, y4⟩ := five_cells hy0
  clear hx1 hy0
  by_cases hop : 1 ≤ t.op ∧ t.op ≤ 13
  case neg =>
    have He := hid (show r = 6 by rw [Hrr.out]; exact wrong_form (badForm_out hop))
    by_cases h1 : t.op < 1
    · clear hop
      go_wp2
      go_ret
      exact ⟨by rw [He.out]; rfl, bw⟩
    · have h2 : 13 < t.op := by omega
      clear hop
      go_wp2
      go_ret
      exact ⟨by rw [He.out]; rfl, bw⟩
  case pos =>
  obtain ⟨hlo, hhi⟩ := hop
  have hbf := badForm_in hlo hhi
  have d1 : ¬ t.op < 1 := by omega
  have d2 : ¬ 13 < t.op := by omega
  go_upto_region 3 with fail
  cases hfm : rfForm t
  case true =>
    have He := hid (show r = 6 by rw [Hrr.out]; exact wrong_form (by rw [hbf, hfm]))
    unfold rfForm at hfm
    cases e3 : (t.op != 3)
    · cases e4 : (t.op != 4)
      · exfalso; rw [e3, e4] at hfm; cases hfm
      · cases e5 : (t.sym != 0)
        · exfalso; rw [e3, e4, e5] at hfm; cases hfm
        · clear hfm hbf
          go_wp2
          go_ret
          exact ⟨by rw [He.out]; rfl, bw⟩
    · cases e13 : (t.op != 13)
      · cases e4 : (t.op != 4)
        · exfalso; rw [e3, e13, e4] at hfm; cases hfm
        · cases e5 : (t.sym != 0)
          · exfalso; rw [e3, e13, e4, e5] at hfm; cases hfm
          · clear hfm hbf
            go_wp2
            go_ret
            exact ⟨by rw [He.out]; rfl, bw⟩
      · cases e6 : (t.num.sign != 0)
        · cases e4 : (t.op != 4)
          · exfalso; rw [e3, e13, e4, e6] at hfm; cases hfm
          · cases e5 : (t.sym != 0)
            · exfalso; rw [e3, e13, e4, e5, e6] at hfm; cases hfm
            · clear hfm hbf
              go_wp2_with fail
              refine (Hsg.out _ bw).mono ?_
              rintro e w3 ⟨rfl, b3⟩
              have y0 := (b3.cell (p := ⟨w.heap.size + 1, 0, none⟩) (by dsimp only; omega)).trans y0
              have y4 := (b3.cell (p := ⟨w.heap.size + 1, 4, none⟩) (by dsimp only; omega)).trans y4
              have bw3 := bel_go b3 bw
              clear z0 z1 y1 y2 y3 b3 bw
              go_wp2
              go_ret
              exact ⟨by rw [He.out]; rfl, bw3⟩
        · clear hfm hbf
          go_wp2_with fail
          refine (Hsg.out _ bw).mono ?_
          rintro e w3 ⟨rfl, b3⟩
          have bw3 := bel_go b3 bw
          clear z0 z1 y0 y1 y2 y3 y4 b3 bw
          go_wp2
          go_ret
          exact ⟨by rw [He.out]; rfl, bw3⟩
  case false =>
  have Hbf := hid (show plBadForm t = false by rw [hbf, hfm])
  have hcls : (t.op = 3 ∨ t.op = 13 ∨ (t.op = 4 ∧ t.num.sign = 0) ∨ ((t.op != 3) = true ∧ (t.op != 13) = true ∧ (t.op != 4) = true ∧ t.num.sign = 0)) ∧ ((t.op != 4) = true → (t.sym != 0) = false) := by
    unfold rfForm at hfm
    by_cases h3 : t.op = 3
    · simp [h3] at hfm ⊢; exact hfm
    · by_cases h13 : t.op = 13
      · simp [h13] at hfm ⊢; exact hfm
      · by_cases h4 : t.op = 4
        · simp [h4] at hfm ⊢; exact hfm
        · simp [h3, h13, h4] at hfm ⊢; exact hfm
  clear hfm hbf d1 d2
  obtain ⟨hcl, hsy⟩ := hcls
  have HZ : Hid (∀ w', Below W2.heap.size W2 w' → w'.cell? ⟨w.heap.size, 0, none⟩ = some (.slice pa p.syms.length ca) ∧ w'.cell? ⟨w.heap.size, 1, none⟩ = some (.slice pb p.terms.length cb) ∧ w'.cell? ⟨w.heap.size + 1, 0, none⟩ = some (.int .i64 t.op) ∧ w'.cell? ⟨w.heap.size + 1, 1, none⟩ = some (.slice pc t.args.length cc) ∧ w'.cell? ⟨w.heap.size + 1, 2, none⟩ = some (.bool b) ∧ w'.cell? ⟨w.heap.size + 1, 3, none⟩ = some (.slice pm nm cm) ∧ w'.cell? ⟨w.heap.size + 1, 4, none⟩ = some (.int .i64 t.sym)) := hid fun w' hb => ⟨(two_cells ((hb.block w.heap.size (by omega)).trans HX.out)).1, (two_cells ((hb.block w.heap.size (by omega)).trans HX.out)).2.1, five_cells ((hb.block (w.heap.size + 1) (by omega)).trans HY.out)⟩
  have HBw := hid bw
  rcases hcl with h3 | h13 | ⟨h4, hs0⟩ | ⟨e3, e13, e4, hs0⟩
  · have e3 : (t.op != 3) = false := by simp [h3]
    have e4 : (t.op != 4) = true := by simp [h3]
    have e5 := hsy e4
    have g4 : (t.op == 4) = false := by simp [h3]
    have Hns := hid (show plNoSym p t = false by unfold plNoSym; rw [g4]; rfl)
    have Hh3 := hid h3
    clear h3
    clear hsy
    go_upto_region 5 with fail
    clear z0 z1 y0 y1 y2 y3 y4 e3 e4 e5
    have Bz := hid (Below.refl W2.heap.size W2)
    obtain ⟨z0, z1, y0, y1, y2, y3, y4⟩ := HZ.out W2 Bz.out
    go_upto_region 7 with fail
    clear z0 z1 y0 y2 y3 y4
    go_wp2_with fail
    go_loopw [63] (fun i wr => ∃ k : Nat, k ≤ t.args.length ∧ i = .int .i64 (k : Nat) ∧ Hid ((t.args.take k).any (plNoTerm p) = false) ∧ Hid (Below W2.heap.size W2 wr)) (fun i _ => t.args.length - (intOf i).toNat)
    case atStart => exact ⟨0, Nat.zero_le _, rfl, hid rfl, hid (Below.refl _ _)⟩
    case round =>
      obtain ⟨k, hk, rfl, hany, Hb⟩ := hrel
      have Hbw := hid (bel_go Hb.out Bz.out)
      by_cases hlt : k < t.args.length
      · have hlt' : (k : Int) < (t.args.length : Nat) := by omega
        obtain ⟨_, _, e, i1, i2, i3, i4⟩ := hargs
        cases e
        obtain ⟨bb, off, rfl, o1, o2⟩ := i4 (by omega)
        have m1 := ((bel_go Hbw.out HBw.out).cell (p := ⟨bb, off + k, none⟩) o1).trans (o2 k hlt)
        have h0 := HZ.out wr Hbw.out
        obtain ⟨-, z1, -, -, -, -, -⟩ := h0
        have Hs1 := hid (any_take_succ (plNoTerm p) t.args k hlt hany.out)
        have Hs2 := hid (any_of_at (plNoTerm p) t.args k hlt)
        unfold maxLen at i2
        clear o2 i4 hany i3
        generalize t.args[k] = x at *
        cases hneg : decide (x < 0)
        · cases hge : decide ((p.terms.length : Int) ≤ x)
          · have hf : plNoTerm p x = false := by unfold plNoTerm; rw [hneg, hge]; rfl
            have Hf := hid hf
            clear hf
            go_wp2_with fail
            go_roundw
            case rel => exact ⟨k + 1, by omega, rfl, hid (Hs1.out Hf.out), Hb⟩
            case measure => simp [intOf]; omega
          · have hf : plNoTerm p x = true := by unfold plNoTerm; rw [hneg, hge]; rfl
            have He := hid (show r = 1 by rw [Hrr.out]; exact wrong_part Hbf.out Hns.out (Hs2.out hf))
            clear hf
            go_wp2_with fail
            go_ret
            exact ⟨by rw [He.out]; rfl, bel_go Hbw.out HBw.out⟩
        · have hf : plNoTerm p x = true := by unfold plNoTerm; rw [hneg]; rfl
          have He := hid (show r = 1 by rw [Hrr.out]; exact wrong_part Hbf.out Hns.out (Hs2.out hf))
          clear hf
          go_wp2_with fail
          go_ret
          exact ⟨by rw [He.out]; rfl, bel_go Hbw.out HBw.out⟩
      · have hkk : k = t.args.length := by omega
        subst hkk
        have Hnp : Hid (plNoPart p t = false) := hid (by have := hany.out; rwa [List.take_length] at this)
        have h0 := HZ.out wr Hbw.out
        obtain ⟨z0, z1, y0, y1, y2, y3, y4⟩ := h0
        clear hany
        go_wp2_with fail
        refine (Hcn.out _ (bel_go Hbw.out HBw.out) hlo hhi Hns.out).mono ?_
        rintro e w5 ⟨rfl, b5⟩
        clear z0 z1 y0 y1 y2 y3 y4
        have Hb5 := hid (bel_go b5 Hbw.out)
        have h0 := HZ.out w5 Hb5.out
        obtain ⟨z0, z1, y0, y1, y2, y3, y4⟩ := h0
        have hbc := badCount_eq p t
        generalize plLeast p t = lst at *
        generalize plMost p t = mst at *
        clear b5 Hb Hbw
        cases e1 : decide ((t.args.length : Int) < lst)
        case true =>
          have He := hid (show r = 9 by rw [Hrr.out]; exact wrong_count Hbf.out Hns.out Hnp.out (by rw [hbc, e1]; rfl))
          clear hbc z0 z1 y0 y2 y3 y4
          go_wp2
          go_ret
          exact ⟨by rw [He.out]; rfl, bel_go Hb5.out HBw.out⟩
        case false =>
        cases e2 : decide (mst < (t.args.length : Int))
        case true =>
          have He := hid (show r = 9 by rw [Hrr.out]; exact wrong_count Hbf.out Hns.out Hnp.out (by rw [hbc, e1, e2]; rfl))
          clear hbc z0 z1 y0 y2 y3 y4
          go_wp2
          go_ret
          exact ⟨by rw [He.out]; rfl, bel_go Hb5.out HBw.out⟩
        case false =>
        have Hbc := hid (show plBadCount p t = false by rw [hbc, e1, e2]; rfl)
        clear hbc
        go_upto_region 16 with fail
        clear z0 z1 y0 y2 y3 y4 e1 e2
        go_wp2_with fail
        clear y1
        go_loopw [98] (fun i wr => ∃ k : Nat, k ≤ t.args.length ∧ i = .int .i64 (k : Nat) ∧ Hid (∀ i (hi : i < t.args.length), i < k → plBadAt p t i t.args[i] = false) ∧ Hid (Below w5.heap.size w5 wr)) (fun i _ => t.args.length - (intOf i).toNat)
        case atStart => exact ⟨0, Nat.zero_le _, rfl, hid (fun i _ h => absurd h (by omega)), hid (Below.refl _ _)⟩
        case round =>
          obtain ⟨k, hk, rfl, Hbad, Hb⟩ := hrel
          have Hbw := hid (bel_go Hb.out Hb5.out)
          by_cases hlt : k < t.args.length
          · have hlt' : (k : Int) < (t.args.length : Nat) := by omega
            obtain ⟨_, _, e, i1, i2, i3, i4⟩ := hargs
            cases e
            obtain ⟨bb, off, rfl, o1, o2⟩ := i4 (by omega)
            have m1 := ((bel_go Hbw.out HBw.out).cell (p := ⟨bb, off + k, none⟩) o1).trans (o2 k hlt)
            have hxm : ∃ m : Nat, t.args[k] = (m : Nat) ∧ m < p.terms.length := part_in Hnp.out k hlt
            obtain ⟨m, hxm, hm⟩ := hxm
            rw [hxm] at m1
            have Hxm := hid hxm
            have Hwe := hid (want_eq p t k hlo hhi Hbc.out hlt)
            unfold maxLen at i2
            clear hxm i3
            exfalso
            have h3 := Hh3.out
            have hq := Hbc.out
            unfold plBadCount at hq
            rw [if_neg (by omega), h3] at hq
            simp only [Bool.or_eq_false_iff, decide_eq_false_iff_not] at hq
            have h2 := hq.2
            rw [show (plRu 3).most = 0 from rfl] at h2
            omega
          · have hkk : k = t.args.length := by omega
            subst hkk
            have He := hid (show r = 0 by rw [Hrr.out]; exact wrong_none Hbf.out Hns.out Hnp.out Hbc.out (badSort_none p t fun i hi => Hbad.out i hi hi))
            go_wp2_with fail
            go_ret
            exact ⟨by rw [He.out]; rfl, bel_go Hbw.out HBw.out⟩
  · have e3 : (t.op != 3) = true := by simp [h13]
    have e13 : (t.op != 13) = false := by simp [h13]
    have e4 : (t.op != 4) = true := by simp [h13]
    have e5 := hsy e4
    have g4 : (t.op == 4) = false := by simp [h13]
    have Hns := hid (show plNoSym p t = false by unfold plNoSym; rw [g4]; rfl)
    have Hh13 := hid h13
    clear h13
    clear hsy
    go_upto_region 5 with fail
    clear z0 z1 y0 y1 y2 y3 y4 e3 e4 e5 e13
    have Bz := hid (Below.refl W2.heap.size W2)
    obtain ⟨z0, z1, y0, y1, y2, y3, y4⟩ := HZ.out W2 Bz.out
    go_upto_region 7 with fail
    clear z0 z1 y0 y2 y3 y4
    go_wp2_with fail
    go_loopw [63] (fun i wr => ∃ k : Nat, k ≤ t.args.length ∧ i = .int .i64 (k : Nat) ∧ Hid ((t.args.take k).any (plNoTerm p) = false) ∧ Hid (Below W2.heap.size W2 wr)) (fun i _ => t.args.length - (intOf i).toNat)
    case atStart => exact ⟨0, Nat.zero_le _, rfl, hid rfl, hid (Below.refl _ _)⟩
    case round =>
      obtain ⟨k, hk, rfl, hany, Hb⟩ := hrel
      have Hbw := hid (bel_go Hb.out Bz.out)
      by_cases hlt : k < t.args.length
      · have hlt' : (k : Int) < (t.args.length : Nat) := by omega
        obtain ⟨_, _, e, i1, i2, i3, i4⟩ := hargs
        cases e
        obtain ⟨bb, off, rfl, o1, o2⟩ := i4 (by omega)
        have m1 := ((bel_go Hbw.out HBw.out).cell (p := ⟨bb, off + k, none⟩) o1).trans (o2 k hlt)
        have h0 := HZ.out wr Hbw.out
        obtain ⟨-, z1, -, -, -, -, -⟩ := h0
        have Hs1 := hid (any_take_succ (plNoTerm p) t.args k hlt hany.out)
        have Hs2 := hid (any_of_at (plNoTerm p) t.args k hlt)
        unfold maxLen at i2
        clear o2 i4 hany i3
        generalize t.args[k] = x at *
        cases hneg : decide (x < 0)
        · cases hge : decide ((p.terms.length : Int) ≤ x)
          · have hf : plNoTerm p x = false := by unfold plNoTerm; rw [hneg, hge]; rfl
            have Hf := hid hf
            clear hf
            go_wp2_with fail
            go_roundw
            case rel => exact ⟨k + 1, by omega, rfl, hid (Hs1.out Hf.out), Hb⟩
            case measure => simp [intOf]; omega
          · have hf : plNoTerm p x = true := by unfold plNoTerm; rw [hneg, hge]; rfl
            have He := hid (show r = 1 by rw [Hrr.out]; exact wrong_part Hbf.out Hns.out (Hs2.out hf))
            clear hf
            go_wp2_with fail
            go_ret
            exact ⟨by rw [He.out]; rfl, bel_go Hbw.out HBw.out⟩
        · have hf : plNoTerm p x = true := by unfold plNoTerm; rw [hneg]; rfl
          have He := hid (show r = 1 by rw [Hrr.out]; exact wrong_part Hbf.out Hns.out (Hs2.out hf))
          clear hf
          go_wp2_with fail
          go_ret
          exact ⟨by rw [He.out]; rfl, bel_go Hbw.out HBw.out⟩
      · have hkk : k = t.args.length := by omega
        subst hkk
        have Hnp : Hid (plNoPart p t = false) := hid (by have := hany.out; rwa [List.take_length] at this)
        have h0 := HZ.out wr Hbw.out
        obtain ⟨z0, z1, y0, y1, y2, y3, y4⟩ := h0
        clear hany
        go_wp2_with fail
        refine (Hcn.out _ (bel_go Hbw.out HBw.out) hlo hhi Hns.out).mono ?_
        rintro e w5 ⟨rfl, b5⟩
        clear z0 z1 y0 y1 y2 y3 y4
        have Hb5 := hid (bel_go b5 Hbw.out)
        have h0 := HZ.out w5 Hb5.out
        obtain ⟨z0, z1, y0, y1, y2, y3, y4⟩ := h0
        have hbc := badCount_eq p t
        generalize plLeast p t = lst at *
        generalize plMost p t = mst at *
        clear b5 Hb Hbw
        cases e1 : decide ((t.args.length : Int) < lst)
        case true =>
          have He := hid (show r = 9 by rw [Hrr.out]; exact wrong_count Hbf.out Hns.out Hnp.out (by rw [hbc, e1]; rfl))
          clear hbc z0 z1 y0 y2 y3 y4
          go_wp2
          go_ret
          exact ⟨by rw [He.out]; rfl, bel_go Hb5.out HBw.out⟩
        case false =>
        cases e2 : decide (mst < (t.args.length : Int))
        case true =>
          have He := hid (show r = 9 by rw [Hrr.out]; exact wrong_count Hbf.out Hns.out Hnp.out (by rw [hbc, e1, e2]; rfl))
          clear hbc z0 z1 y0 y2 y3 y4
          go_wp2
          go_ret
          exact ⟨by rw [He.out]; rfl, bel_go Hb5.out HBw.out⟩
        case false =>
        have Hbc := hid (show plBadCount p t = false by rw [hbc, e1, e2]; rfl)
        clear hbc
        go_upto_region 16 with fail
        clear z0 z1 y0 y2 y3 y4 e1 e2
        go_wp2_with fail
        clear y1
        go_loopw [98] (fun i wr => ∃ k : Nat, k ≤ t.args.length ∧ i = .int .i64 (k : Nat) ∧ Hid (∀ i (hi : i < t.args.length), i < k → plBadAt p t i t.args[i] = false) ∧ Hid (Below w5.heap.size w5 wr)) (fun i _ => t.args.length - (intOf i).toNat)
        case atStart => exact ⟨0, Nat.zero_le _, rfl, hid (fun i _ h => absurd h (by omega)), hid (Below.refl _ _)⟩
        case round =>
          obtain ⟨k, hk, rfl, Hbad, Hb⟩ := hrel
          have Hbw := hid (bel_go Hb.out Hb5.out)
          by_cases hlt : k < t.args.length
          · have hlt' : (k : Int) < (t.args.length : Nat) := by omega
            obtain ⟨_, _, e, i1, i2, i3, i4⟩ := hargs
            cases e
            obtain ⟨bb, off, rfl, o1, o2⟩ := i4 (by omega)
            have m1 := ((bel_go Hbw.out HBw.out).cell (p := ⟨bb, off + k, none⟩) o1).trans (o2 k hlt)
            have hxm : ∃ m : Nat, t.args[k] = (m : Nat) ∧ m < p.terms.length := part_in Hnp.out k hlt
            obtain ⟨m, hxm, hm⟩ := hxm
            rw [hxm] at m1
            have Hxm := hid hxm
            have Hwe := hid (want_eq p t k hlo hhi Hbc.out hlt)
            unfold maxLen at i2
            clear hxm i3
            clear o2 i4
            have h13 := Hh13.out
            have g4 : (t.op == 4) = false := by simp; omega
            have g10 : (t.op == 10) = false := by simp; omega
            have g11 : (t.op == 11) = false := by simp; omega
            have g12 : (t.op == 12) = false := by simp; omega
            have g13 : (t.op == 13) = true := by simp; omega
            have hwant : rfWant p t k = 2 := by unfold rfWant; rw [if_pos (by omega)]
            have Hwant := hid hwant
            clear hwant h13
            have h0 := (HZ.out wr Hbw.out)
            obtain ⟨z0, z1, y0, y1, y2, y3, y4⟩ := h0
            go_upto_region 30 with fail
            clear y0 y1 y2 y3 y4
            go_wp2_with fail
            refine (Hso.out m _ (bel_go Hbw.out HBw.out) hm).mono ?_
            rintro e w6 ⟨rfl, b6⟩
            have HW6 := hid (bel_go b6 Hbw.out)
            have HB6 := hid (Hb.out.trans (b6.mono Hb.out.size))
            clear z0 z1 b6
            cases hne : (plSortAt p (m : Nat) != 2)
            · go_wp2_with fail
              go_roundw
              case rel =>
                refine ⟨k + 1, by omega, rfl, hid fun i hi hik => ?_, HB6⟩
                by_cases hie : i = k
                · subst hie
                  unfold plBadAt
                  rw [Hwe.out, Hxm.out, Hwant.out]
                  exact hne
                · exact Hbad.out i hi (by omega)
              case measure => simp [intOf]; omega
            · have He := hid (show r = 8 by
                rw [Hrr.out]
                exact wrong_sort Hbf.out Hns.out Hnp.out Hbc.out (badSort_of p t k hlt (by unfold plBadAt; rw [Hwe.out, Hxm.out, Hwant.out]; exact hne)))
              go_wp2_with fail
              go_ret
              exact ⟨by rw [He.out]; rfl, bel_go HW6.out HBw.out⟩
          · have hkk : k = t.args.length := by omega
            subst hkk
            have He := hid (show r = 0 by rw [Hrr.out]; exact wrong_none Hbf.out Hns.out Hnp.out Hbc.out (badSort_none p t fun i hi => Hbad.out i hi hi))
            go_wp2_with fail
            go_ret
            exact ⟨by rw [He.out]; rfl, bel_go Hbw.out HBw.out⟩
  · have e3 : (t.op != 3) = true := by simp [h4]
    have e13 : (t.op != 13) = true := by simp [h4]
    have e4 : (t.op != 4) = false := by simp [h4]
    have e6 : (t.num.sign != 0) = false := by simp [hs0]
    have g4 : (t.op == 4) = true := by simp [h4]
    have Hh4 := hid h4
    clear h4
    clear hsy hs0
    go_wp2_with fail
    refine (Hsg.out _ HBw.out).mono ?_
    rintro e wz ⟨rfl, b3⟩
    have Bz := hid b3
    clear z0 z1 y0 y1 y2 y3 y4 b3
    obtain ⟨z0, z1, y0, y1, y2, y3, y4⟩ := HZ.out wz Bz.out
    go_upto_region 5 with fail
    clear e3 e13 e4 e6
    cases hneg : decide (t.sym < 0)
    case true =>
      have He := hid (show r = 7 by rw [Hrr.out]; exact wrong_sym Hbf.out (by unfold plNoSym; rw [g4, hneg]; rfl))
      go_wp2
      go_ret
      exact ⟨by rw [He.out]; rfl, bel_go Bz.out HBw.out⟩
    case false =>
    cases hge : decide ((p.syms.length : Int) ≤ t.sym)
    case true =>
      have He := hid (show r = 7 by rw [Hrr.out]; exact wrong_sym Hbf.out (by unfold plNoSym; rw [g4, hneg, hge]; rfl))
      go_wp2
      go_ret
      exact ⟨by rw [He.out]; rfl, bel_go Bz.out HBw.out⟩
    case false =>
    have Hns := hid (show plNoSym p t = false by unfold plNoSym; rw [g4, hneg, hge]; rfl)
    go_upto_region 7 with fail
    clear z0 z1 y0 y2 y3 y4 hneg hge
    go_wp2_with fail
    go_loopw [63] (fun i wr => ∃ k : Nat, k ≤ t.args.length ∧ i = .int .i64 (k : Nat) ∧ Hid ((t.args.take k).any (plNoTerm p) = false) ∧ Hid (Below wz.heap.size wz wr)) (fun i _ => t.args.length - (intOf i).toNat)
    case atStart => exact ⟨0, Nat.zero_le _, rfl, hid rfl, hid (Below.refl _ _)⟩
    case round =>
      obtain ⟨k, hk, rfl, hany, Hb⟩ := hrel
      have Hbw := hid (bel_go Hb.out Bz.out)
      by_cases hlt : k < t.args.length
      · have hlt' : (k : Int) < (t.args.length : Nat) := by omega
        obtain ⟨_, _, e, i1, i2, i3, i4⟩ := hargs
        cases e
        obtain ⟨bb, off, rfl, o1, o2⟩ := i4 (by omega)
        have m1 := ((bel_go Hbw.out HBw.out).cell (p := ⟨bb, off + k, none⟩) o1).trans (o2 k hlt)
        have h0 := HZ.out wr Hbw.out
        obtain ⟨-, z1, -, -, -, -, -⟩ := h0
        have Hs1 := hid (any_take_succ (plNoTerm p) t.args k hlt hany.out)
        have Hs2 := hid (any_of_at (plNoTerm p) t.args k hlt)
        unfold maxLen at i2
        clear o2 i4 hany i3
        generalize t.args[k] = x at *
        cases hneg : decide (x < 0)
        · cases hge : decide ((p.terms.length : Int) ≤ x)
          · have hf : plNoTerm p x = false := by unfold plNoTerm; rw [hneg, hge]; rfl
            have Hf := hid hf
            clear hf
            go_wp2_with fail
            go_roundw
            case rel => exact ⟨k + 1, by omega, rfl, hid (Hs1.out Hf.out), Hb⟩
            case measure => simp [intOf]; omega
          · have hf : plNoTerm p x = true := by unfold plNoTerm; rw [hneg, hge]; rfl
            have He := hid (show r = 1 by rw [Hrr.out]; exact wrong_part Hbf.out Hns.out (Hs2.out hf))
            clear hf
            go_wp2_with fail
            go_ret
            exact ⟨by rw [He.out]; rfl, bel_go Hbw.out HBw.out⟩
        · have hf : plNoTerm p x = true := by unfold plNoTerm; rw [hneg]; rfl
          have He := hid (show r = 1 by rw [Hrr.out]; exact wrong_part Hbf.out Hns.out (Hs2.out hf))
          clear hf
          go_wp2_with fail
          go_ret
          exact ⟨by rw [He.out]; rfl, bel_go Hbw.out HBw.out⟩
      · have hkk : k = t.args.length := by omega
        subst hkk
        have Hnp : Hid (plNoPart p t = false) := hid (by have := hany.out; rwa [List.take_length] at this)
        have h0 := HZ.out wr Hbw.out
        obtain ⟨z0, z1, y0, y1, y2, y3, y4⟩ := h0
        clear hany
        go_wp2_with fail
        refine (Hcn.out _ (bel_go Hbw.out HBw.out) hlo hhi Hns.out).mono ?_
        rintro e w5 ⟨rfl, b5⟩
        clear z0 z1 y0 y1 y2 y3 y4
        have Hb5 := hid (bel_go b5 Hbw.out)
        have h0 := HZ.out w5 Hb5.out
        obtain ⟨z0, z1, y0, y1, y2, y3, y4⟩ := h0
        have hbc := badCount_eq p t
        generalize plLeast p t = lst at *
        generalize plMost p t = mst at *
        clear b5 Hb Hbw
        cases e1 : decide ((t.args.length : Int) < lst)
        case true =>
          have He := hid (show r = 9 by rw [Hrr.out]; exact wrong_count Hbf.out Hns.out Hnp.out (by rw [hbc, e1]; rfl))
          clear hbc z0 z1 y0 y2 y3 y4
          go_wp2
          go_ret
          exact ⟨by rw [He.out]; rfl, bel_go Hb5.out HBw.out⟩
        case false =>
        cases e2 : decide (mst < (t.args.length : Int))
        case true =>
          have He := hid (show r = 9 by rw [Hrr.out]; exact wrong_count Hbf.out Hns.out Hnp.out (by rw [hbc, e1, e2]; rfl))
          clear hbc z0 z1 y0 y2 y3 y4
          go_wp2
          go_ret
          exact ⟨by rw [He.out]; rfl, bel_go Hb5.out HBw.out⟩
        case false =>
        have Hbc := hid (show plBadCount p t = false by rw [hbc, e1, e2]; rfl)
        clear hbc
        go_upto_region 16 with fail
        clear z0 z1 y0 y2 y3 y4 e1 e2
        go_wp2_with fail
        clear y1
        go_loopw [98] (fun i wr => ∃ k : Nat, k ≤ t.args.length ∧ i = .int .i64 (k : Nat) ∧ Hid (∀ i (hi : i < t.args.length), i < k → plBadAt p t i t.args[i] = false) ∧ Hid (Below w5.heap.size w5 wr)) (fun i _ => t.args.length - (intOf i).toNat)
        case atStart => exact ⟨0, Nat.zero_le _, rfl, hid (fun i _ h => absurd h (by omega)), hid (Below.refl _ _)⟩
        case round =>
          obtain ⟨k, hk, rfl, Hbad, Hb⟩ := hrel
          have Hbw := hid (bel_go Hb.out Hb5.out)
          by_cases hlt : k < t.args.length
          · have hlt' : (k : Int) < (t.args.length : Nat) := by omega
            obtain ⟨_, _, e, i1, i2, i3, i4⟩ := hargs
            cases e
            obtain ⟨bb, off, rfl, o1, o2⟩ := i4 (by omega)
            have m1 := ((bel_go Hbw.out HBw.out).cell (p := ⟨bb, off + k, none⟩) o1).trans (o2 k hlt)
            have hxm : ∃ m : Nat, t.args[k] = (m : Nat) ∧ m < p.terms.length := part_in Hnp.out k hlt
            obtain ⟨m, hxm, hm⟩ := hxm
            rw [hxm] at m1
            have Hxm := hid hxm
            have Hwe := hid (want_eq p t k hlo hhi Hbc.out hlt)
            unfold maxLen at i2
            clear hxm i3
            clear o2 i4
            have h4 := Hh4.out
            have hwant : rfWant p t k = 2 := by unfold rfWant; rw [if_pos (by omega)]
            have Hwant := hid hwant
            clear hwant h4
            have h0 := (HZ.out wr Hbw.out)
            obtain ⟨z0, z1, y0, y1, y2, y3, y4⟩ := h0
            go_upto_region 30 with fail
            clear y0 y1 y2 y3 y4
            go_wp2_with fail
            refine (Hso.out m _ (bel_go Hbw.out HBw.out) hm).mono ?_
            rintro e w6 ⟨rfl, b6⟩
            have HW6 := hid (bel_go b6 Hbw.out)
            have HB6 := hid (Hb.out.trans (b6.mono Hb.out.size))
            clear z0 z1 b6
            cases hne : (plSortAt p (m : Nat) != 2)
            · go_wp2_with fail
              go_roundw
              case rel =>
                refine ⟨k + 1, by omega, rfl, hid fun i hi hik => ?_, HB6⟩
                by_cases hie : i = k
                · subst hie
                  unfold plBadAt
                  rw [Hwe.out, Hxm.out, Hwant.out]
                  exact hne
                · exact Hbad.out i hi (by omega)
              case measure => simp [intOf]; omega
            · have He := hid (show r = 8 by
                rw [Hrr.out]
                exact wrong_sort Hbf.out Hns.out Hnp.out Hbc.out (badSort_of p t k hlt (by unfold plBadAt; rw [Hwe.out, Hxm.out, Hwant.out]; exact hne)))
              go_wp2_with fail
              go_ret
              exact ⟨by rw [He.out]; rfl, bel_go HW6.out HBw.out⟩
          · have hkk : k = t.args.length := by omega
            subst hkk
            have He := hid (show r = 0 by rw [Hrr.out]; exact wrong_none Hbf.out Hns.out Hnp.out Hbc.out (badSort_none p t fun i hi => Hbad.out i hi hi))
            go_wp2_with fail
            go_ret
            exact ⟨by rw [He.out]; rfl, bel_go Hbw.out HBw.out⟩
  · have e5 := hsy e4
    have e6 : (t.num.sign != 0) = false := by simp [hs0]
    have g4 : (t.op == 4) = false := by simpa [bne] using e4
    have g13 : (t.op == 13) = false := by simpa [bne] using e13
    have Hns := hid (show plNoSym p t = false by unfold plNoSym; rw [g4]; rfl)
    have n3 : t.op ≠ 3 := by simpa using e3
    have n13 : t.op ≠ 13 := by simpa using e13
    have n4 : t.op ≠ 4 := by simpa using e4
    have Nx := hid (And.intro n3 (And.intro n13 n4))
    clear n3 n13 n4
    clear hsy hs0
    go_wp2_with fail
    refine (Hsg.out _ HBw.out).mono ?_
    rintro e wz ⟨rfl, b3⟩
    have Bz := hid b3
    clear z0 z1 y0 y1 y2 y3 y4 b3
    obtain ⟨z0, z1, y0, y1, y2, y3, y4⟩ := HZ.out wz Bz.out
    go_upto_region 5 with fail
    clear e3 e13 e4 e5 e6
    go_upto_region 7 with fail
    clear z0 z1 y0 y2 y3 y4
    go_wp2_with fail
    go_loopw [63] (fun i wr => ∃ k : Nat, k ≤ t.args.length ∧ i = .int .i64 (k : Nat) ∧ Hid ((t.args.take k).any (plNoTerm p) = false) ∧ Hid (Below wz.heap.size wz wr)) (fun i _ => t.args.length - (intOf i).toNat)
    case atStart => exact ⟨0, Nat.zero_le _, rfl, hid rfl, hid (Below.refl _ _)⟩
    case round =>
      obtain ⟨k, hk, rfl, hany, Hb⟩ := hrel
      have Hbw := hid (bel_go Hb.out Bz.out)
      by_cases hlt : k < t.args.length
      · have hlt' : (k : Int) < (t.args.length : Nat) := by omega
        obtain ⟨_, _, e, i1, i2, i3, i4⟩ := hargs
        cases e
        obtain ⟨bb, off, rfl, o1, o2⟩ := i4 (by omega)
        have m1 := ((bel_go Hbw.out HBw.out).cell (p := ⟨bb, off + k, none⟩) o1).trans (o2 k hlt)
        have h0 := HZ.out wr Hbw.out
        obtain ⟨-, z1, -, -, -, -, -⟩ := h0
        have Hs1 := hid (any_take_succ (plNoTerm p) t.args k hlt hany.out)
        have Hs2 := hid (any_of_at (plNoTerm p) t.args k hlt)
        unfold maxLen at i2
        clear o2 i4 hany i3
        generalize t.args[k] = x at *
        cases hneg : decide (x < 0)
        · cases hge : decide ((p.terms.length : Int) ≤ x)
          · have hf : plNoTerm p x = false := by unfold plNoTerm; rw [hneg, hge]; rfl
            have Hf := hid hf
            clear hf
            go_wp2_with fail
            go_roundw
            case rel => exact ⟨k + 1, by omega, rfl, hid (Hs1.out Hf.out), Hb⟩
            case measure => simp [intOf]; omega
          · have hf : plNoTerm p x = true := by unfold plNoTerm; rw [hneg, hge]; rfl
            have He := hid (show r = 1 by rw [Hrr.out]; exact wrong_part Hbf.out Hns.out (Hs2.out hf))
            clear hf
            go_wp2_with fail
            go_ret
            exact ⟨by rw [He.out]; rfl, bel_go Hbw.out HBw.out⟩
        · have hf : plNoTerm p x = true := by unfold plNoTerm; rw [hneg]; rfl
          have He := hid (show r = 1 by rw [Hrr.out]; exact wrong_part Hbf.out Hns.out (Hs2.out hf))
          clear hf
          go_wp2_with fail
          go_ret
          exact ⟨by rw [He.out]; rfl, bel_go Hbw.out HBw.out⟩
      · have hkk : k = t.args.length := by omega
        subst hkk
        have Hnp : Hid (plNoPart p t = false) := hid (by have := hany.out; rwa [List.take_length] at this)
        have h0 := HZ.out wr Hbw.out
        obtain ⟨z0, z1, y0, y1, y2, y3, y4⟩ := h0
        clear hany
        go_wp2_with fail
        refine (Hcn.out _ (bel_go Hbw.out HBw.out) hlo hhi Hns.out).mono ?_
        rintro e w5 ⟨rfl, b5⟩
        clear z0 z1 y0 y1 y2 y3 y4
        have Hb5 := hid (bel_go b5 Hbw.out)
        have h0 := HZ.out w5 Hb5.out
        obtain ⟨z0, z1, y0, y1, y2, y3, y4⟩ := h0
        have hbc := badCount_eq p t
        generalize plLeast p t = lst at *
        generalize plMost p t = mst at *
        clear b5 Hb Hbw
        cases e1 : decide ((t.args.length : Int) < lst)
        case true =>
          have He := hid (show r = 9 by rw [Hrr.out]; exact wrong_count Hbf.out Hns.out Hnp.out (by rw [hbc, e1]; rfl))
          clear hbc z0 z1 y0 y2 y3 y4
          go_wp2
          go_ret
          exact ⟨by rw [He.out]; rfl, bel_go Hb5.out HBw.out⟩
        case false =>
        cases e2 : decide (mst < (t.args.length : Int))
        case true =>
          have He := hid (show r = 9 by rw [Hrr.out]; exact wrong_count Hbf.out Hns.out Hnp.out (by rw [hbc, e1, e2]; rfl))
          clear hbc z0 z1 y0 y2 y3 y4
          go_wp2
          go_ret
          exact ⟨by rw [He.out]; rfl, bel_go Hb5.out HBw.out⟩
        case false =>
        have Hbc := hid (show plBadCount p t = false by rw [hbc, e1, e2]; rfl)
        clear hbc
        go_upto_region 16 with fail
        clear z0 z1 y0 y2 y3 y4 e1 e2
        go_wp2_with fail
        clear y1
        go_loopw [98] (fun i wr => ∃ k : Nat, k ≤ t.args.length ∧ i = .int .i64 (k : Nat) ∧ Hid (∀ i (hi : i < t.args.length), i < k → plBadAt p t i t.args[i] = false) ∧ Hid (Below w5.heap.size w5 wr)) (fun i _ => t.args.length - (intOf i).toNat)
        case atStart => exact ⟨0, Nat.zero_le _, rfl, hid (fun i _ h => absurd h (by omega)), hid (Below.refl _ _)⟩
        case round =>
          obtain ⟨k, hk, rfl, Hbad, Hb⟩ := hrel
          have Hbw := hid (bel_go Hb.out Hb5.out)
          by_cases hlt : k < t.args.length
          · have hlt' : (k : Int) < (t.args.length : Nat) := by omega
            obtain ⟨_, _, e, i1, i2, i3, i4⟩ := hargs
            cases e
            obtain ⟨bb, off, rfl, o1, o2⟩ := i4 (by omega)
            have m1 := ((bel_go Hbw.out HBw.out).cell (p := ⟨bb, off + k, none⟩) o1).trans (o2 k hlt)
            have hxm : ∃ m : Nat, t.args[k] = (m : Nat) ∧ m < p.terms.length := part_in Hnp.out k hlt
            obtain ⟨m, hxm, hm⟩ := hxm
            rw [hxm] at m1
            have Hxm := hid hxm
            have Hwe := hid (want_eq p t k hlo hhi Hbc.out hlt)
            unfold maxLen at i2
            clear hxm i3
            obtain ⟨n3, n13, n4⟩ := Nx.out
            by_cases hw2 : t.op = 10 ∨ t.op = 11 ∨ t.op = 12
            · clear o2 i4
              have hwant : rfWant p t k = 2 := by unfold rfWant; rw [if_pos (by omega)]
              have Hwant := hid hwant
              clear hwant n3 n13 n4
              rcases hw2 with h | h | h
              · have g10 : (t.op == 10) = true := by simp; omega
                clear h
                have h0 := (HZ.out wr Hbw.out)
                obtain ⟨z0, z1, y0, y1, y2, y3, y4⟩ := h0
                go_upto_region 30 with fail
                clear y0 y1 y2 y3 y4
                go_wp2_with fail
                refine (Hso.out m _ (bel_go Hbw.out HBw.out) hm).mono ?_
                rintro e w6 ⟨rfl, b6⟩
                have HW6 := hid (bel_go b6 Hbw.out)
                have HB6 := hid (Hb.out.trans (b6.mono Hb.out.size))
                clear z0 z1 b6
                cases hne : (plSortAt p (m : Nat) != 2)
                · go_wp2_with fail
                  go_roundw
                  case rel =>
                    refine ⟨k + 1, by omega, rfl, hid fun i hi hik => ?_, HB6⟩
                    by_cases hie : i = k
                    · subst hie
                      unfold plBadAt
                      rw [Hwe.out, Hxm.out, Hwant.out]
                      exact hne
                    · exact Hbad.out i hi (by omega)
                  case measure => simp [intOf]; omega
                · have He := hid (show r = 8 by
                    rw [Hrr.out]
                    exact wrong_sort Hbf.out Hns.out Hnp.out Hbc.out (badSort_of p t k hlt (by unfold plBadAt; rw [Hwe.out, Hxm.out, Hwant.out]; exact hne)))
                  go_wp2_with fail
                  go_ret
                  exact ⟨by rw [He.out]; rfl, bel_go HW6.out HBw.out⟩
              · have g10 : (t.op == 10) = false := by simp; omega
                have g11 : (t.op == 11) = true := by simp; omega
                clear h
                have h0 := (HZ.out wr Hbw.out)
                obtain ⟨z0, z1, y0, y1, y2, y3, y4⟩ := h0
                go_upto_region 30 with fail
                clear y0 y1 y2 y3 y4
                go_wp2_with fail
                refine (Hso.out m _ (bel_go Hbw.out HBw.out) hm).mono ?_
                rintro e w6 ⟨rfl, b6⟩
                have HW6 := hid (bel_go b6 Hbw.out)
                have HB6 := hid (Hb.out.trans (b6.mono Hb.out.size))
                clear z0 z1 b6
                cases hne : (plSortAt p (m : Nat) != 2)
                · go_wp2_with fail
                  go_roundw
                  case rel =>
                    refine ⟨k + 1, by omega, rfl, hid fun i hi hik => ?_, HB6⟩
                    by_cases hie : i = k
                    · subst hie
                      unfold plBadAt
                      rw [Hwe.out, Hxm.out, Hwant.out]
                      exact hne
                    · exact Hbad.out i hi (by omega)
                  case measure => simp [intOf]; omega
                · have He := hid (show r = 8 by
                    rw [Hrr.out]
                    exact wrong_sort Hbf.out Hns.out Hnp.out Hbc.out (badSort_of p t k hlt (by unfold plBadAt; rw [Hwe.out, Hxm.out, Hwant.out]; exact hne)))
                  go_wp2_with fail
                  go_ret
                  exact ⟨by rw [He.out]; rfl, bel_go HW6.out HBw.out⟩
              · have g10 : (t.op == 10) = false := by simp; omega
                have g11 : (t.op == 11) = false := by simp; omega
                have g12 : (t.op == 12) = true := by simp; omega
                clear h
                have h0 := (HZ.out wr Hbw.out)
                obtain ⟨z0, z1, y0, y1, y2, y3, y4⟩ := h0
                go_upto_region 30 with fail
                clear y0 y1 y2 y3 y4
                go_wp2_with fail
                refine (Hso.out m _ (bel_go Hbw.out HBw.out) hm).mono ?_
                rintro e w6 ⟨rfl, b6⟩
                have HW6 := hid (bel_go b6 Hbw.out)
                have HB6 := hid (Hb.out.trans (b6.mono Hb.out.size))
                clear z0 z1 b6
                cases hne : (plSortAt p (m : Nat) != 2)
                · go_wp2_with fail
                  go_roundw
                  case rel =>
                    refine ⟨k + 1, by omega, rfl, hid fun i hi hik => ?_, HB6⟩
                    by_cases hie : i = k
                    · subst hie
                      unfold plBadAt
                      rw [Hwe.out, Hxm.out, Hwant.out]
                      exact hne
                    · exact Hbad.out i hi (by omega)
                  case measure => simp [intOf]; omega
                · have He := hid (show r = 8 by
                    rw [Hrr.out]
                    exact wrong_sort Hbf.out Hns.out Hnp.out Hbc.out (badSort_of p t k hlt (by unfold plBadAt; rw [Hwe.out, Hxm.out, Hwant.out]; exact hne)))
                  go_wp2_with fail
                  go_ret
                  exact ⟨by rw [He.out]; rfl, bel_go HW6.out HBw.out⟩
            · have g10 : (t.op == 10) = false := by simp; omega
              have g11 : (t.op == 11) = false := by simp; omega
              have g12 : (t.op == 12) = false := by simp; omega
              by_cases h9 : t.op = 9
              · have g9 : (t.op == 9) = true := by simp; omega
                by_cases hk0 : 0 < k
                · have hl1 : 1 < t.args.length := by omega
                  obtain ⟨j, hj1, hj⟩ := part_in Hnp.out 1 hl1
                  have n1 := ((bel_go Hbw.out HBw.out).cell (p := ⟨bb, off + 1, none⟩) o1).trans (o2 1 hl1)
                  rw [hj1] at n1
                  have hwant : rfWant p t k = plSortAt p (j : Nat) := by unfold rfWant; rw [if_neg (by omega), if_pos ⟨h9, hk0⟩, List.getElem?_eq_getElem hl1, hj1]; rfl
                  have Hwant := hid hwant
                  have hk0' : (0 : Int) < (k : Nat) := by omega
                  have hl1' : (1 : Int) < (t.args.length : Nat) := by omega
                  have HN1 := hid n1
                  have h0 := (HZ.out wr Hbw.out)
                  obtain ⟨z0, z1, y0, y1, y2, y3, y4⟩ := h0
                  clear hwant h9 hw2 o2 i4 n1 hj1 n3 n13 n4
                  go_upto_region 29 with fail
                  have HS : Hid (∀ w', Below wr.heap.size wr w' → (w'.cell? ⟨w.heap.size, 0, none⟩ = some (.slice pa p.syms.length ca) ∧ w'.cell? ⟨w.heap.size, 1, none⟩ = some (.slice pb p.terms.length cb) ∧ w'.cell? ⟨w.heap.size + 1, 0, none⟩ = some (.int .i64 t.op) ∧ w'.cell? ⟨w.heap.size + 1, 1, none⟩ = some (.slice (some ⟨bb, off, none⟩) t.args.length cc) ∧ w'.cell? ⟨w.heap.size + 1, 2, none⟩ = some (.bool b) ∧ w'.cell? ⟨w.heap.size + 1, 3, none⟩ = some (.slice pm nm cm) ∧ w'.cell? ⟨w.heap.size + 1, 4, none⟩ = some (.int .i64 t.sym)) ∧ w'.cell? ⟨bb, off + 1, none⟩ = some (.int .i64 (j : Nat))) := hid fun w' hb => ⟨HZ.out w' (bel_go hb Hbw.out), (hb.cell (p := ⟨bb, off + 1, none⟩) (Nat.lt_of_lt_of_le o1 (bel_go Hbw.out HBw.out).size)).trans HN1.out⟩
                  clear z0 z1 y0 y1 y2 y3 y4 m1
                  refine wp_region_facts (w0 := wr) 7 0 [115, 116, 117, 118, 119, 120, 11] [u115, u116, u117, u118, u119, u120, .int .i64 1]
                    (fun i => match i with | 0 => eqD (.agg #[.slice pa p.syms.length ca, .slice pb p.terms.length cb]) | 1 => eqD (.pointer (some ⟨w.heap.size + 1, 1, none⟩)) | 2 => eqD (.slice (some ⟨bb, off, none⟩) t.args.length cc) | 3 => eqD (.pointer (some ⟨bb, off + 1, none⟩)) | 4 => eqD (.int .i64 (j : Nat)) | 5 => eqD (.int .i64 (plSortAt p (j : Nat))) | _ => eqD (.int .i64 (plSortAt p (j : Nat)))) [] (by kernel_rfl) (by kernel_rfl) (by kernel_rfl) (by kernel_rfl) (by decide) rfl (by kernel_rfl) rfl (by simp) ?he1 ?_ ?_ ?_
                  case he1 => simp only [putAll, Act.put, List.setIfInBounds_toArray, List.set_cons_zero, List.set_cons_succ]
                  · intro i hi; simp at hi
                  · intro i o hi ho vs wx hvl hb hdep K hK
                    have hvs := vlen7 hvl
                    obtain ⟨s115, s116, s117, s118, s119, s120, s11, rfl⟩ := hvs
                    clear hvl
                    have hk := HS.out wx hb
                    go_split_ands
                    rcases i with _ | _ | _ | _ | _ | _ | _ | i
                    all_goals (simp only [List.getElem?_toArray, List.getElem?_cons_zero, List.getElem?_cons_succ, Option.some.injEq] at ho)
                    all_goals try (subst ho)
                    all_goals try simp only [putAll, Act.put, List.setIfInBounds_toArray, List.set_cons_zero, List.set_cons_succ]
                    · go_simp
                      have hK' := hK.out
                      simp only [putAll, Act.put, List.setIfInBounds_toArray, List.set_cons_zero, List.set_cons_succ] at hK'
                      exact hK' _ _ rfl (Below.refl _ _) (by simp)
                    · go_simp
                      have hK' := hK.out
                      simp only [putAll, Act.put, List.setIfInBounds_toArray, List.set_cons_zero, List.set_cons_succ] at hK'
                      exact hK' _ _ rfl (Below.refl _ _) (by simp)
                    · have e1 : s116 = _ := hdep ⟨1, .data⟩ (by simp) rfl
                      have e1 := e1.symm
                      subst e1
                      go_simp
                      have hK' := hK.out
                      simp only [putAll, Act.put, List.setIfInBounds_toArray, List.set_cons_zero, List.set_cons_succ] at hK'
                      exact hK' _ _ rfl (Below.refl _ _) (by simp)
                    · have e2 : s117 = _ := hdep ⟨2, .data⟩ (by simp) rfl
                      have e2 := e2.symm
                      subst e2
                      go_simp
                      have hK' := hK.out
                      simp only [putAll, Act.put, List.setIfInBounds_toArray, List.set_cons_zero, List.set_cons_succ] at hK'
                      exact hK' _ _ rfl (Below.refl _ _) (by simp)
                    · have e3 : s118 = _ := hdep ⟨3, .data⟩ (by simp) rfl
                      have e3 := e3.symm
                      subst e3
                      go_simp
                      have hK' := hK.out
                      simp only [putAll, Act.put, List.setIfInBounds_toArray, List.set_cons_zero, List.set_cons_succ] at hK'
                      exact hK' _ _ rfl (Below.refl _ _) (by simp)
                    · have e0 : s115 = _ := hdep ⟨0, .data⟩ (by simp) rfl
                      have e0 := e0.symm
                      subst e0
                      have e4 : s119 = _ := hdep ⟨4, .data⟩ (by simp) rfl
                      have e4 := e4.symm
                      subst e4
                      go_simp
                      go_simp
                      refine (Hso.out j _ (bel_go (bel_go hb Hbw.out) HBw.out) hj).mono ?_
                      rintro e wy ⟨rfl, hby⟩
                      go_wp2_with fail
                      have hK' := hK.out
                      simp only [putAll, Act.put, List.setIfInBounds_toArray, List.set_cons_zero, List.set_cons_succ] at hK'
                      exact hK' _ _ rfl hby (by simp)
                    · have e5 : s120 = _ := hdep ⟨5, .data⟩ (by simp) rfl
                      have e5 := e5.symm
                      subst e5
                      go_simp
                      have hK' := hK.out
                      simp only [putAll, Act.put, List.setIfInBounds_toArray, List.set_cons_zero, List.set_cons_succ] at hK'
                      exact hK' _ _ rfl (Below.refl _ _) (by simp)
                    · omega
                  · intro vs wx hvl hb hf hdist
                    have hvs := vlen7 hvl
                    obtain ⟨s115, s116, s117, s118, s119, s120, s11, rfl⟩ := hvs
                    have f6 : s11 = .int .i64 (plSortAt p (j : Nat)) := hf 6 (by decide)
                    subst f6
                    clear hf hdist hvl
                    refine wpAny_done (by kernel_rfl) ?_ _
                    simp only [putAll, Act.put, List.setIfInBounds_toArray, List.set_cons_zero, List.set_cons_succ]
                    have Hb9 := hid (Hb.out.trans (hb.mono Hb.out.size))
                    have Hbw9 := hid (bel_go hb Hbw.out)
                    clear Hb Hbw HS hb
                    have Hb := Hb9
                    have Hbw := Hbw9
                    clear Hb9 Hbw9
                    generalize hwx : wx = wr at *
                    clear hwx
                    have h0 := (HZ.out wr Hbw.out)
                    obtain ⟨z0, z1, y0, y1, y2, y3, y4⟩ := h0
                    go_upto_region 30 with fail
                    clear y0 y1 y2 y3 y4
                    go_wp2_with fail
                    refine (Hso.out m _ (bel_go Hbw.out HBw.out) hm).mono ?_
                    rintro e w6 ⟨rfl, b6⟩
                    have HW6 := hid (bel_go b6 Hbw.out)
                    have HB6 := hid (Hb.out.trans (b6.mono Hb.out.size))
                    clear z0 z1 b6
                    cases hne : (plSortAt p (m : Nat) != plSortAt p (j : Nat))
                    · go_wp2_with fail
                      go_roundw
                      case rel =>
                        refine ⟨k + 1, by omega, rfl, hid fun i hi hik => ?_, HB6⟩
                        by_cases hie : i = k
                        · subst hie
                          unfold plBadAt
                          rw [Hwe.out, Hxm.out, Hwant.out]
                          exact hne
                        · exact Hbad.out i hi (by omega)
                      case measure => simp [intOf]; omega
                    · have He := hid (show r = 8 by
                        rw [Hrr.out]
                        exact wrong_sort Hbf.out Hns.out Hnp.out Hbc.out (badSort_of p t k hlt (by unfold plBadAt; rw [Hwe.out, Hxm.out, Hwant.out]; exact hne)))
                      go_wp2_with fail
                      go_ret
                      exact ⟨by rw [He.out]; rfl, bel_go HW6.out HBw.out⟩
                · have hwant : rfWant p t k = 1 := by unfold rfWant; rw [if_neg (by omega), if_neg (by omega)]
                  have Hwant := hid hwant
                  have hk0' : ¬ (0 : Int) < (k : Nat) := by omega
                  clear hwant h9 hw2 o2 i4 n3 n13 n4
                  have h0 := (HZ.out wr Hbw.out)
                  obtain ⟨z0, z1, y0, y1, y2, y3, y4⟩ := h0
                  go_upto_region 30 with fail
                  clear y0 y1 y2 y3 y4
                  go_wp2_with fail
                  refine (Hso.out m _ (bel_go Hbw.out HBw.out) hm).mono ?_
                  rintro e w6 ⟨rfl, b6⟩
                  have HW6 := hid (bel_go b6 Hbw.out)
                  have HB6 := hid (Hb.out.trans (b6.mono Hb.out.size))
                  clear z0 z1 b6
                  cases hne : (plSortAt p (m : Nat) != 1)
                  · go_wp2_with fail
                    go_roundw
                    case rel =>
                      refine ⟨k + 1, by omega, rfl, hid fun i hi hik => ?_, HB6⟩
                      by_cases hie : i = k
                      · subst hie
                        unfold plBadAt
                        rw [Hwe.out, Hxm.out, Hwant.out]
                        exact hne
                      · exact Hbad.out i hi (by omega)
                    case measure => simp [intOf]; omega
                  · have He := hid (show r = 8 by
                      rw [Hrr.out]
                      exact wrong_sort Hbf.out Hns.out Hnp.out Hbc.out (badSort_of p t k hlt (by unfold plBadAt; rw [Hwe.out, Hxm.out, Hwant.out]; exact hne)))
                    go_wp2_with fail
                    go_ret
                    exact ⟨by rw [He.out]; rfl, bel_go HW6.out HBw.out⟩
              · have g9 : (t.op == 9) = false := by simp; omega
                have hwant : rfWant p t k = 1 := by unfold rfWant; rw [if_neg (by omega), if_neg (by omega)]
                have Hwant := hid hwant
                clear hwant h9 hw2 o2 i4 n3 n13 n4
                have h0 := (HZ.out wr Hbw.out)
                obtain ⟨z0, z1, y0, y1, y2, y3, y4⟩ := h0
                go_upto_region 30 with fail
                clear y0 y1 y2 y3 y4
                go_wp2_with fail
                refine (Hso.out m _ (bel_go Hbw.out HBw.out) hm).mono ?_
                rintro e w6 ⟨rfl, b6⟩
                have HW6 := hid (bel_go b6 Hbw.out)
                have HB6 := hid (Hb.out.trans (b6.mono Hb.out.size))
                clear z0 z1 b6
                cases hne : (plSortAt p (m : Nat) != 1)
                · go_wp2_with fail
                  go_roundw
                  case rel =>
                    refine ⟨k + 1, by omega, rfl, hid fun i hi hik => ?_, HB6⟩
                    by_cases hie : i = k
                    · subst hie
                      unfold plBadAt
                      rw [Hwe.out, Hxm.out, Hwant.out]
                      exact hne
                    · exact Hbad.out i hi (by omega)
                  case measure => simp [intOf]; omega
                · have He := hid (show r = 8 by
                    rw [Hrr.out]
                    exact wrong_sort Hbf.out Hns.out Hnp.out Hbc.out (badSort_of p t k hlt (by unfold plBadAt; rw [Hwe.out, Hxm.out, Hwant.out]; exact hne)))
                  go_wp2_with fail
                  go_ret
                  exact ⟨by rw [He.out]; rfl, bel_go HW6.out HBw.out⟩
          · have hkk : k = t.args.length := by omega
            subst hkk
            have He := hid (show r = 0 by rw [Hrr.out]; exact wrong_none Hbf.out Hns.out Hnp.out Hbc.out (badSort_none p t fun i hi => Hbad.out i hi hi))
            go_wp2_with fail
            go_ret
            exact ⟨by rw [He.out]; rfl, bel_go Hbw.out HBw.out⟩
end Go.Proofs.YthheafjilbeddaaDoor
/- elenchusref01.From: what it tells lies in memory of its own (the proof of XFrom, told more of). -/
namespace Go.Proofs.YthheafjilbeddaaDoor
open Go.RowKit Big

set_option maxRecDepth 100000 in
set_option maxHeartbeats 3200000 in
theorem From_own (v : Value) (l : List Nat) (w : World) (h : At w .i64 v l) (hs : Small D l) (hlen : l.length ≤ 8796093022208) :
    Calls Tryd.prog 57 #[v] w (ROwn 98 .u64 (dig W (val D l)) w) := by
  have hv0 : val D (strip l) = val D l := by rw [strip_dig D2 hs, val_dig D2]
  have hs' : Small D (strip l) := by rw [strip_dig D2 hs]; exact small_dig D2 _
  have hl' : (strip l).length ≤ 8796093022208 := Nat.le_trans (strip_length l) hlen
  have hlast : strip l = dig D (val D l) := strip_dig D2 hs
  have G := hid (rtrim_any v l w h)
  rw [← hv0] at hlast ⊢
  clear h hlen hs hv0
  generalize strip l = l' at *
  have Hl := hid hlast; clear hlast
  go_enter Tryd.func57, Tryd.ntmps57
  go_wp2_with fail
  refine G.out.mono ?_
  rintro e w' ⟨v', rfl, ⟨p, cap, rfl, a1, a2, a3, a4⟩, rfl⟩
  unfold maxLen at a2
  go_wp2_with fail
  go_loopw [3, 4] (fun o s wr => ∃ (i j : Nat) (L : List Nat), i ≤ l'.length + 3 ∧ Hid (i = 4 * j) ∧ s = .int .i64 (i : Nat) ∧ Own wr w.heap.size 98 .u64 o L ∧ Hid (L.length = j) ∧ j ≤ i ∧ Small W L ∧
      Hid (val W L = val D (l'.take i)) ∧ Below w.heap.size w wr) (fun _ s _ => l'.length + 4 - (intOf s).toNat)
  case atStart => exact ⟨0, 0, [], by omega, rfl, rfl, Own.nil _ _ _ _, rfl, by omega, small_nil _, rfl, Below.refl _ _⟩
  case round =>
    obtain ⟨i, j, L, hi, hij, rfl, hown, hLj, hji, hsl, hv, hbel⟩ := hrel
    by_cases hil : i < l'.length
    · obtain ⟨b, off, rfl, hbb, hcell⟩ := a4 (by omega)
      obtain ⟨x0, hx0⟩ : ∃ x, x = l'[i]?.getD 0 := ⟨_, rfl⟩
      obtain ⟨x1, hx1⟩ : ∃ x, x = l'[i + 1]?.getD 0 := ⟨_, rfl⟩
      obtain ⟨x2, hx2⟩ : ∃ x, x = l'[i + 2]?.getD 0 := ⟨_, rfl⟩
      obtain ⟨x3, hx3⟩ : ∃ x, x = l'[i + 3]?.getD 0 := ⟨_, rfl⟩
      have y0 : x0 < 65536 := by rw [hx0]; exact small_getD hs' (by decide) _
      have y1 : x1 < 65536 := by rw [hx1]; exact small_getD hs' (by decide) _
      have y2 : x2 < 65536 := by rw [hx2]; exact small_getD hs' (by decide) _
      have y3 : x3 < 65536 := by rw [hx3]; exact small_getD hs' (by decide) _
      have cell : ∀ m, i + m < l'.length → wr.cell? ⟨b, off + (i + m), none⟩ = some (.int .i64 (l'[i + m]?.getD 0 : Nat)) := fun m hm => by
        rw [(hbel.cell (p := ⟨b, off + (i + m), none⟩) hbb).trans (hcell (i + m) hm)]; simp [hm]
      have zero : ∀ m, ¬ i + m < l'.length → l'[i + m]?.getD 0 = 0 := fun m hm => by rw [List.getElem?_eq_none (by omega)]; rfl
      have Cell := hid cell
      have Zero := hid zero
      have Hx0 := hid hx0; have Hx1 := hid hx1; have Hx2 := hid hx2; have Hx3 := hid hx3
      clear cell zero hx0 hx1 hx2 hx3 hcell a4
      go_wp2_with fail
      obtain ⟨wo, rfl⟩ : ∃ wo : World, wo = wr := ⟨_, rfl⟩
      go_loopw [5, 6] (fun a s wq => ∃ m : Nat, m ≤ 4 ∧ s = .int .i64 ((m : Int) - 1) ∧ a = .int .u64 (acc x0 x1 x2 x3 m : Nat) ∧ wq = wo) (fun _ s _ => (intOf s + 1).toNat)
      case atStart => exact ⟨4, by omega, rfl, rfl, rfl⟩
      case round =>
        obtain ⟨m, hm, rfl, rfl, rfl⟩ := hrel
        by_cases hm0 : 0 < m
        · rcases (by omega : m = 4 ∨ m = 3 ∨ m = 2 ∨ m = 1) with rfl | rfl | rfl | rfl
          · by_cases hin : i + 3 < l'.length
            · skip
              have c := Cell.out 3 hin
              rw [← Hx3.out] at c
              simp only [acc]
              go_wp2
              go_roundw
              case rel => exact ⟨3, by omega, rfl, num_eq (by first | rfl | omega | (simp only; omega)), by trivial⟩
              case measure => simp [intOf]
            · skip
              have hz : x3 = 0 := by rw [Hx3.out]; exact Zero.out 3 hin
              have Hz := hid hz
              clear hz
              simp only [acc]
              go_wp2
              go_roundw
              case rel => exact ⟨3, by omega, rfl, num_eq (by have := Hz.out; first | omega | (simp only; omega)), by trivial⟩
              case measure => simp [intOf]
          · by_cases hin : i + 2 < l'.length
            · skip
              have c := Cell.out 2 hin
              rw [← Hx2.out] at c
              simp only [acc]
              go_wp2
              go_roundw
              case rel => exact ⟨2, by omega, rfl, num_eq (by first | rfl | omega | (simp only; omega)), by trivial⟩
              case measure => simp [intOf]
            · skip
              have hz : x2 = 0 := by rw [Hx2.out]; exact Zero.out 2 hin
              have Hz := hid hz
              clear hz
              simp only [acc]
              go_wp2
              go_roundw
              case rel => exact ⟨2, by omega, rfl, num_eq (by have := Hz.out; first | omega | (simp only; omega)), by trivial⟩
              case measure => simp [intOf]
          · by_cases hin : i + 1 < l'.length
            · skip
              have c := Cell.out 1 hin
              rw [← Hx1.out] at c
              simp only [acc]
              go_wp2
              go_roundw
              case rel => exact ⟨1, by omega, rfl, num_eq (by first | rfl | omega | (simp only; omega)), by trivial⟩
              case measure => simp [intOf]
            · skip
              have hz : x1 = 0 := by rw [Hx1.out]; exact Zero.out 1 hin
              have Hz := hid hz
              clear hz
              simp only [acc]
              go_wp2
              go_roundw
              case rel => exact ⟨1, by omega, rfl, num_eq (by have := Hz.out; first | omega | (simp only; omega)), by trivial⟩
              case measure => simp [intOf]
          · by_cases hin : i + 0 < l'.length
            · skip
              have c := Cell.out 0 hin
              simp only [Nat.add_zero] at c
              rw [← Hx0.out] at c
              simp only [acc]
              go_wp2
              go_roundw
              case rel => exact ⟨0, by omega, rfl, num_eq (by first | rfl | omega | (simp only; omega)), by trivial⟩
              case measure => simp [intOf]
            · exact absurd hil (by simpa using hin)
        · obtain rfl : m = 0 := by omega
          simp only [acc]
          go_wp2_with (at_builtin; refine wpList_append_at rfl _ _ 35 rfl elemNat w.heap.size _ L rfl (hown.alloc _) _ [((x3 * 65536 + x2) * 65536 + x1) * 65536 + x0] rfl (At.oneI _ _ _ _ _ (by omega)) (by rw [hLj.out]; simp [maxLen]; omega) (by rw [hLj.out]; simp; omega) (by have := hbel.size; simp; omega) ?_; intro v2 w2 ho2 hb2 hs2)
          go_roundw
          case rel => exact ⟨i + 4, j + 1, L ++ [((x3 * 65536 + x2) * 65536 + x1) * 65536 + x0], by omega, by have := hij.out; unfold Hid; omega, by go_num, ho2, by have := hLj.out; unfold Hid; simp; omega, by omega,
            small_snoc hsl (by unfold W; omega), from_step hij.out hLj.out hv.out Hx0.out Hx1.out Hx2.out Hx3.out, (hbel.trans ((below1 _ _).mono hbel.size)).trans hb2⟩
          case measure => simp [intOf]; omega
    · have hv' : Hid (L = dig W (val D l')) := by
        have e := hv.out
        rw [val_take_ge _ _ _ (by omega)] at e
        unfold Hid
        rw [← e]
        refine canon W2 hsl ?_
        by_cases hj0 : j = 0
        · left; exact List.eq_nil_of_length_eq_zero (by rw [hLj.out, hj0])
        · right
          have hne : l' ≠ [] := by
            intro h0; have := hij.out; rw [h0] at hi; simp at hi; omega
          have hlen : l'.length = sz D (val D l') := by unfold sz; rw [← Hl.out]
          have hpos : 0 < val D l' := Nat.pos_of_ne_zero fun e0 => by
            have := Hl.out; rw [e0] at this; exact hne this
          have hp := pow_sz_le D2 hpos
          rw [← hlen] at hp
          rw [e, hLj.out]
          refine Nat.le_trans ?_ hp
          rw [show W ^ (j - 1) = D ^ (4 * (j - 1)) by rw [Nat.pow_mul]; rfl]
          exact Nat.pow_le_pow_right (by decide) (by have := hij.out; omega)
      clear a4 hij hv Hl
      go_wp2
      go_ret
      exact ⟨_, rfl, by rw [← hv'.out]; exact hown, hbel⟩
end Go.Proofs.YthheafjilbeddaaDoor
/- elenchusref01.Whole: what it tells lies in memory of its own. -/
namespace Go.Proofs.YthheafjilbeddaaDoor
open Go.RowKit Big

theorem IntOwn.whole {w : World} {B : Nat} {neg : Bool} {n : Nat} {p : Option Addr} {len c : Nat} (h : Own w B 98 .u64 (.slice p len c) (dig W n)) :
    IntOwn w B (.agg #[.bool (neg && decide (0 < len)), .slice p len c]) (sg neg n) := by
  have h2 := IntAt.whole (neg := neg) h.at
  obtain ⟨s, e, -⟩ := h2
  injection e with e
  simp only [Array.mk.injEq, List.cons.injEq, and_true] at e
  obtain ⟨e1, e2⟩ := e
  refine ⟨.slice p len c, by rw [e1], by rw [sg_natAbs]; exact h⟩
set_option maxHeartbeats 800000 in
theorem Whole_own (neg : Bool) (v : Value) (l : List Nat) (w : World) (h : At w .u64 v l) (hs : Small W l) (hlen : l.length ≤ 2199023255552) :
    Calls Tryd.prog 36 #[.bool neg, v] w fun e w' => ∃ v', e = .returned v' ∧ IntOwn w' w.heap.size v' (sg neg (val W l)) ∧ Below w.heap.size w w' := by
  have hd : ∀ o, Calls Tryd.prog 58 #[v] (w.alloc o) (RAt .i64 (dig D (val W l)) (w.alloc o)) := fun o => Digits_any v l _ (h.alloc o) hs hlen
  have hsz : (dig D (val W l)).length ≤ 8796093022208 := by
    have h1 := sz4 (val W l)
    have h2 := sz_val W2 hs
    show sz D (val W l) ≤ _
    omega
  have Hd := hid hd
  have Hsz := hid hsz
  clear hd hsz
  generalize val W l = n at *
  go_enter Tryd.func36, Tryd.ntmps36
  go_wp2_with fail
  refine (Hd.out _).mono ?_
  rintro e w1 ⟨v1, rfl, h1, hb1⟩
  go_wp2_with fail
  refine (From_own v1 _ w1 h1 (small_dig D2 n) Hsz.out).mono ?_
  rintro e w2 ⟨v2, rfl, h2, hb2⟩
  rw [val_dig D2] at h2
  have hpr : Pair w2 w.heap.size 37 := Pair.below (Pair.below (Pair.new ..) hb1) hb2
  obtain ⟨_, _, q0, q1, q2, q3⟩ := hpr.cells
  have z1 : w.heap.size + 1 ≤ w1.heap.size := by have := hb1.size; simp at this; omega
  have bw : Below w.heap.size w w2 := ((below1 _ _).trans (hb1.mono (B' := w.heap.size) (by simp))).trans (hb2.mono (B' := w.heap.size) (by omega))
  have h2 := h2.mono (base' := w.heap.size + 1) z1
  obtain ⟨p, c, rfl, -⟩ := h2.at
  have hI := IntOwn.whole (neg := neg) h2
  have HI := hid hI
  clear hb1 hb2 h1 h2 hI
  generalize (dig W n).length = len at *
  cases neg
  · go_wp2
    exact bodyPost_ret (v := .agg #[.bool false, .slice p len c]) (by simp [results, Tryd.results36, go_sem, q0, q1]) rfl
      ⟨_, rfl, IntOwn.mono (IntOwn.stored (show IntOwn w2 _ _ _ from HI.out) (by omega) _ _) (by omega), Below.stored bw (by omega) _ _⟩
  · by_cases h0 : 0 < len
    · have hx : Hid (decide (0 < len) = true) := by unfold Hid; simpa using h0
      go_wp2
      exact bodyPost_ret (v := .agg #[.bool true, .slice p len c]) (by simp [results, Tryd.results36, go_sem, q0, q1]) rfl
        ⟨_, rfl, (by have := HI.out; rw [hx.out] at this; exact (this.stored (by omega) _ _).mono (by omega)), Below.stored bw (by omega) _ _⟩
    · have hx : Hid (decide (0 < len) = false) := by unfold Hid; simpa using h0
      go_wp2
      exact bodyPost_ret (v := .agg #[.bool false, .slice p len c]) (by simp [results, Tryd.results36, go_sem, q0, q1]) rfl
        ⟨_, rfl, (by have := HI.out; rw [hx.out] at this; exact (this.stored (by omega) _ _).mono (by omega)), Below.stored bw (by omega) _ _⟩
end Go.Proofs.YthheafjilbeddaaDoor
/- elenchusref04.Same of two terms that are handed in. -/
namespace Go.Proofs.YthheafjilbeddaaDoor
open Go.RowKit Big Go.WideMaps

set_option maxRecDepth 100000 in
set_option maxHeartbeats 6400000 in
theorem RefSame_any (a b : Tm) (va vb : Value) (w : World) (ha : TmRaw w va a) (hb : TmRaw w vb b) (sa : sz W a.num.natAbs ≤ 549755813888) (sb : sz W b.num.natAbs ≤ 549755813888) :
    Calls Tryd.prog 15 #[va, vb] w (RBool (decide (a = b)) w) := by
  obtain ⟨pa, ca, ba, pm, nm, cm, rfl, hla, hma⟩ := ha
  obtain ⟨pa', ca', ba', pm', nm', cm', rfl, hlb, hmb⟩ := hb
  have hcmp : ∀ W', Below w.heap.size w W' → Calls Tryd.prog 37 #[.agg #[.bool ba, .slice pm nm cm], .agg #[.bool ba', .slice pm' nm' cm']] W' (RNum .i64 (ord a.num b.num) W') := fun W' h => RCmp_any _ _ _ _ W' (hma.below h) (hmb.below h) sa sb
  have Hcmp := hid hcmp
  have b1 := below1 w (.cells #[.int .i64 a.op, .slice pa a.args.length ca, .bool ba, .slice pm nm cm, .int .i64 a.sym] 39)
  have b2 := below1 (w.alloc (.cells #[.int .i64 a.op, .slice pa a.args.length ca, .bool ba, .slice pm nm cm, .int .i64 a.sym] 39)) (.cells #[.int .i64 b.op, .slice pa' b.args.length ca', .bool ba', .slice pm' nm' cm', .int .i64 b.sym] 39)
  have h1 := (b2.block w.heap.size (by simp)).trans (heap_alloc_new w (.cells #[.int .i64 a.op, .slice pa a.args.length ca, .bool ba, .slice pm nm cm, .int .i64 a.sym] 39))
  have h2 := heap_alloc_new (w.alloc (.cells #[.int .i64 a.op, .slice pa a.args.length ca, .bool ba, .slice pm nm cm, .int .i64 a.sym] 39)) (.cells #[.int .i64 b.op, .slice pa' b.args.length ca', .bool ba', .slice pm' nm' cm', .int .i64 b.sym] 39)
  have hs1 := size_alloc w (.cells #[.int .i64 a.op, .slice pa a.args.length ca, .bool ba, .slice pm nm cm, .int .i64 a.sym] 39)
  have hs2 := size_alloc (w.alloc (.cells #[.int .i64 a.op, .slice pa a.args.length ca, .bool ba, .slice pm nm cm, .int .i64 a.sym] 39)) (.cells #[.int .i64 b.op, .slice pa' b.args.length ca', .bool ba', .slice pm' nm' cm', .int .i64 b.sym] 39)
  rw [hs1] at h2 hs2
  have bw := bel_go b2 b1
  have hr : decide (a = b) = (!(a.op != b.op) && !(a.sym != b.sym) && !((a.args.length : Int) != (b.args.length : Int)) && !(a.num != b.num) && decide (a.args = b.args)) := by
    rw [Bool.eq_iff_iff]
    simp
    constructor
    · rintro rfl; simp
    · rintro ⟨⟨⟨⟨e1, e2⟩, -⟩, e4⟩, e5⟩
      cases a; cases b; simp_all
  have hz : (a.num != b.num) = (ord a.num b.num != 0) := by
    by_cases h : a.num = b.num
    · rw [h, ord_eq]; simp
    · have : ord a.num b.num ≠ 0 := by unfold ord; split <;> (try split) <;> omega
      rw [bne_iff_ne.2 this, bne_iff_ne.2 h]
  rw [hz] at hr
  generalize decide (a = b) = r at *
  have Hr := hid hr
  clear hr hz hcmp sa sb hma hmb b1 b2
  go_enter Tryd.func15, Tryd.ntmps15
  go_upto_region 1 with fail
  generalize hW : ((w.alloc (.cells #[.int .i64 a.op, .slice pa a.args.length ca, .bool ba, .slice pm nm cm, .int .i64 a.sym] 39)).alloc (.cells #[.int .i64 b.op, .slice pa' b.args.length ca', .bool ba', .slice pm' nm' cm', .int .i64 b.sym] 39)) = W2 at *
  clear hW hs1
  have Hx := hid (five_cells h1)
  have Hy := hid (five_cells h2)
  obtain ⟨x0, x1, x2, x3, x4⟩ := Hx.out
  obtain ⟨y0, y1, y2, y3, y4⟩ := Hy.out
  clear h1 h2
  obtain ⟨_, _, e, i1, i2, i3, i4⟩ := hla
  cases e
  obtain ⟨_, _, e, k1, k2, k3, k4⟩ := hlb
  cases e
  have Hi := hid i4; have Hk := hid k4
  unfold maxLen at i2 k2
  clear i4 k4 i3 k3
  generalize ord a.num b.num = od at *
  cases e1 : (a.op != b.op)
  case true => (have hr0 : r = false := by rw [Hr.out, e1]; rfl); subst hr0; clear Hr; go_wp2; go_ret; exact ⟨rfl, bw⟩
  cases e2 : (a.sym != b.sym)
  case true => (have hr0 : r = false := by rw [Hr.out, e1, e2]; rfl); subst hr0; clear Hr; go_wp2; go_ret; exact ⟨rfl, bw⟩
  cases e3 : ((a.args.length : Int) != (b.args.length : Int))
  case true => (have hr0 : r = false := by rw [Hr.out, e1, e2, e3]; rfl); subst hr0; clear Hr; go_wp2; go_ret; exact ⟨rfl, bw⟩
  have hlen : a.args.length = b.args.length := by simp at e3; omega
  cases e4 : (od != 0)
  case true =>
    have hr0 : r = false := by rw [Hr.out, e1, e2, e3, e4]; rfl
    subst hr0
    clear Hr
    go_wp2_with (refine (Hcmp.out _ bw).mono ?_; rintro e w4 ⟨rfl, b4⟩)
    go_ret
    exact ⟨rfl, bel_go b4 bw⟩
  have hr1 : r = decide (a.args = b.args) := by rw [Hr.out, e1, e2, e3, e4]; rfl
  have Hr1 := hid hr1
  clear Hr hr1
  go_wp2_with (first | (go_at_call 37; refine (Hcmp.out _ bw).mono ?_; rintro e w4 ⟨rfl, b4⟩; have x1 := (b4.cell (p := ⟨w.heap.size, 1, none⟩) (by dsimp only; omega)).trans x1))
  have Hb4 := hid b4
  have hz4 := b4.size
  clear b4 x0 x2 x3 x4 y0 y1 y2 y3 y4 x1 e1 e2 e3 e4 Hcmp
  go_loopw [38] (fun i wr => ∃ k : Nat, k ≤ a.args.length ∧ i = .int .i64 (k : Nat) ∧ Hid (a.args.take k = b.args.take k) ∧ Hid (Below w4.heap.size w4 wr)) (fun i _ => a.args.length - (intOf i).toNat)
  case atStart => exact ⟨0, Nat.zero_le _, rfl, hid (by simp), hid (Below.refl _ _)⟩
  case round =>
    obtain ⟨k, hk, rfl, htk, Hb⟩ := hrel
    have hb2 : Below W2.heap.size W2 wr := Hb4.out.trans (Hb.out.mono hz4)
    have hbw : Below w.heap.size w wr := bel_go hb2 bw
    by_cases hlt : k < a.args.length
    · have hlt' : (k : Int) < (a.args.length : Nat) := by omega
      have hltb : k < b.args.length := by omega
      obtain ⟨-, x1, -, -, -⟩ := Hx.out
      obtain ⟨-, y1, -, -, -⟩ := Hy.out
      have x1 := (hb2.cell (p := ⟨w.heap.size, 1, none⟩) (by dsimp only; omega)).trans x1
      have y1 := (hb2.cell (p := ⟨w.heap.size + 1, 1, none⟩) (by dsimp only; omega)).trans y1
      obtain ⟨bb, off, rfl, j1, j2⟩ := Hi.out (by omega)
      obtain ⟨bc, off', rfl, o1, o2⟩ := Hk.out (by omega)
      have m1 := (hbw.cell (p := ⟨bb, off + k, none⟩) j1).trans (j2 k hlt)
      have m2 := (hbw.cell (p := ⟨bc, off' + k, none⟩) o1).trans (o2 k hltb)
      have hnx : (a.args[k] != b.args[k]) = false → a.args.take (k + 1) = b.args.take (k + 1) := fun h => by
        rw [List.take_succ_eq_append_getElem hlt, List.take_succ_eq_append_getElem hltb, htk.out, show a.args[k] = b.args[k] by simpa using h]
      have hno : (a.args[k] != b.args[k]) = true → r = false := fun h => by
        rw [Hr1.out]
        simp at h ⊢
        intro e
        exact h (by simp [e])
      have Hnx := hid hnx; have Hno := hid hno
      clear hnx hno j2 o2 Hi Hk Hx Hy htk
      generalize a.args[k] = p1 at *
      generalize b.args[k] = p2 at *
      cases hpp : (p1 != p2)
      · go_wp2_with fail
        go_quiet (fail)
        go_wp2
        go_roundw
        case rel => exact ⟨k + 1, by omega, rfl, hid (Hnx.out (by trivial)), hid (below_drewN Hb.out _)⟩
        case measure => simp [intOf]; omega
      · go_wp2_with fail
        go_quiet (fail)
        go_wp2
        go_ret
        exact ⟨by rw [Hno.out (by trivial)]; rfl, below_drewN hbw _⟩
    · have hkk : k = a.args.length := by omega
      subst hkk
      have he : r = true := by
        rw [Hr1.out]
        have := htk.out
        rw [List.take_length, hlen, List.take_length] at this
        simpa using this
      subst he
      clear Hr1 htk Hi Hk Hx Hy
      go_wp2_with fail
      go_ret
      exact ⟨rfl, hbw⟩
end Go.Proofs.YthheafjilbeddaaDoor
/- elenchusref04.Find; rows that the reference has made. -/
namespace Go.Proofs.YthheafjilbeddaaDoor
open Go.RowKit Big Go.WideMaps

theorem findIdx_step (l : List Tm) (t : Tm) (k : Nat) (h : k < l.length) (hn : plFind (l.take k) t = none) : (l[k] = t → plFind l t = some k) ∧ (l[k] ≠ t → plFind (l.take (k + 1)) t = none) := by
  have hn' : ∀ x ∈ l.take k, x ≠ t := by
    unfold plFind at hn
    rw [List.findIdx?_eq_none_iff] at hn
    intro x hx e
    have := hn x hx
    simp [e] at this
  refine ⟨fun e => ?_, fun e => ?_⟩
  · unfold plFind
    rw [List.findIdx?_eq_some_iff_getElem]
    refine ⟨h, by simp [e], fun j hj => ?_⟩
    have : l[j] ∈ l.take k := by
      rw [List.mem_take_iff_getElem]
      exact ⟨j, by omega, rfl⟩
    simpa using hn' _ this
  · unfold plFind
    rw [List.findIdx?_eq_none_iff]
    intro x hx
    rw [List.take_succ_eq_append_getElem h] at hx
    rcases List.mem_append.1 hx with hx | hx
    · simpa using hn' x hx
    · simp at hx; subst hx; simpa using e
def rfFound (l : List Tm) (t : Tm) : Int := match plFind l t with | some k => (k : Nat) | none => -1
set_option maxRecDepth 100000 in
set_option maxHeartbeats 12800000 in
theorem Find_any (s : List Sy) (l : List Tm) (t : Tm) (v vt : Value) (w : World) (hr : RwIn w v s l) (ht : TmRaw w vt t) (hst : sz W t.num.natAbs ≤ 549755813888) (hsl : ∀ x ∈ l, sz W x.num.natAbs ≤ 549755813888) :
    Calls Tryd.prog 35 #[v, vt] w (RNum .i64 (rfFound l t) w) := by
  have Ht := hid ht
  have Hsl := hid hsl
  obtain ⟨va, vb, rfl, hs', ht'⟩ := hr
  have Htl := hid ht'
  obtain ⟨pa, ca, rfl, -, -, -, -⟩ := hs'
  obtain ⟨pb, cb, rfl, b1, b2, -, -⟩ := ht'
  obtain ⟨pc, cc, b, pm, nm, cm, rfl, -, -⟩ := ht
  have bx := below1 w (.cells #[.slice pa s.length ca, .slice pb l.length cb] 27)
  have hx0 := heap_alloc_new w (.cells #[.slice pa s.length ca, .slice pb l.length cb] 27)
  have hz := size_alloc w (.cells #[.slice pa s.length ca, .slice pb l.length cb] 27)
  have by_ := below1 (w.alloc (.cells #[.slice pa s.length ca, .slice pb l.length cb] 27)) (.cells #[.int .i64 t.op, .slice pc t.args.length cc, .bool b, .slice pm nm cm, .int .i64 t.sym] 39)
  have hy0 := heap_alloc_new (w.alloc (.cells #[.slice pa s.length ca, .slice pb l.length cb] 27)) (.cells #[.int .i64 t.op, .slice pc t.args.length cc, .bool b, .slice pm nm cm, .int .i64 t.sym] 39)
  have hz2 := size_alloc (w.alloc (.cells #[.slice pa s.length ca, .slice pb l.length cb] 27)) (.cells #[.int .i64 t.op, .slice pc t.args.length cc, .bool b, .slice pm nm cm, .int .i64 t.sym] 39)
  rw [hz] at hy0 hz2
  have hx1 := (by_.block w.heap.size (by omega)).trans hx0
  have bw := bel_go by_ bx
  clear hsl bx hx0 by_
  unfold maxLen at b2
  go_enter Tryd.func35, Tryd.ntmps35
  go_upto_region 1 with fail
  generalize hW : ((w.alloc (.cells #[.slice pa s.length ca, .slice pb l.length cb] 27)).alloc (.cells #[.int .i64 t.op, .slice pc t.args.length cc, .bool b, .slice pm nm cm, .int .i64 t.sym] 39)) = W2 at *
  clear hW hz
  have HY := hid hy0
  have HBw := hid bw
  obtain ⟨z0, z1, -, -⟩ := two_cells hx1
  clear hx1 hy0 bw
  go_wp2_with fail
  go_loopw [10] (fun i wr => ∃ k : Nat, k ≤ l.length ∧ i = .int .i64 (k : Nat) ∧ Hid (plFind (l.take k) t = none) ∧ Hid (Below W2.heap.size W2 wr)) (fun i _ => l.length - (intOf i).toNat)
  case atStart => exact ⟨0, Nat.zero_le _, rfl, hid rfl, hid (Below.refl _ _)⟩
  case round =>
    obtain ⟨k, hk, rfl, hno, Hb⟩ := hrel
    clear z0 z1
    have Hbw := hid (bel_go Hb.out HBw.out)
    by_cases hlt : k < l.length
    · have hlt' : (k : Int) < (l.length : Nat) := by omega
      obtain ⟨_, _, e5, -, -, -, hc⟩ := Htl.out.below Hbw.out
      cases e5
      obtain ⟨bb, off, rfl, j1, j2⟩ := hc (by omega)
      obtain ⟨c0, c1, c2, c3, c4, m0, m1, m2, m3, m4, hraw⟩ := j2 k hlt
      have hstep := findIdx_step l t k hlt hno.out
      have hsx := Hsl.out l[k] (List.getElem_mem hlt)
      generalize l[k] = x at *
      have Hraw := hid hraw
      obtain ⟨pd, cd, b', pm', nm', cm', ea, -, -⟩ := hraw
      cases ea
      have hsame := fun W (hw : Below wr.heap.size wr W) => RefSame_any x t _ _ W (Hraw.out.below hw) (Ht.out.below (bel_go hw Hbw.out)) hsx hst
      have Hsame := hid hsame
      have Hstep := hid hstep
      have q := five_cells ((Hb.out.block (w.heap.size + 1) (by omega)).trans HY.out)
      obtain ⟨y0, y1, y2, y3, y4⟩ := q
      have bz := below1 wr (.cells #[.int .i64 x.op, .slice pd x.args.length cd, .bool b', .slice pm' nm' cm', .int .i64 x.sym] 39)
      have hsr := Hb.out.size
      have y0 := (bz.cell (p := ⟨w.heap.size + 1, 0, none⟩) (by dsimp only; omega)).trans y0
      have y1 := (bz.cell (p := ⟨w.heap.size + 1, 1, none⟩) (by dsimp only; omega)).trans y1
      have y2 := (bz.cell (p := ⟨w.heap.size + 1, 2, none⟩) (by dsimp only; omega)).trans y2
      have y3 := (bz.cell (p := ⟨w.heap.size + 1, 3, none⟩) (by dsimp only; omega)).trans y3
      have y4 := (bz.cell (p := ⟨w.heap.size + 1, 4, none⟩) (by dsimp only; omega)).trans y4
      clear hc j2 hno hstep hsx hsame Hsl Htl
      go_wp2_with fail
      refine (Hsame.out _ bz).mono ?_
      rintro e w3 ⟨rfl, b3⟩
      have Hb3 := hid (Hb.out.trans ((bel_go b3 bz).mono Hb.out.size))
      clear b3 bz y0 y1 y2 y3 y4
      by_cases hxt : x = t
      · have hd : decide (x = t) = true := by simpa using hxt
        have He := hid (show rfFound l t = (k : Nat) by unfold rfFound; rw [Hstep.out.1 hxt])
        rw [hd]
        clear hxt hd
        go_wp2_with fail
        go_ret
        exact ⟨by rw [He.out]; rfl, bel_go Hb3.out HBw.out⟩
      · have hd : decide (x = t) = false := by simpa using hxt
        have He := hid (Hstep.out.2 hxt)
        rw [hd]
        clear hxt hd
        go_wp2_with fail
        go_roundw
        case rel => exact ⟨k + 1, by omega, rfl, He, Hb3⟩
        case measure => simp [intOf]; omega
    · have hkk : k = l.length := by omega
      subst hkk
      have He := hid (show rfFound l t = -1 by have := hno.out; rw [List.take_length] at this; unfold rfFound; rw [this])
      go_wp2_with fail
      go_ret
      exact ⟨by rw [He.out]; rfl, Hbw.out⟩

/-- a term in a row that the reference has made: its parts' numbers as they came in, its number in memory of its own -/
def RfTm (W0 : World) (B : Nat) (w : World) (t : Tm) (c : List Value) : Prop := ∃ va vn, c = [.int .i64 t.op, va, .bool (decide (t.num < 0)), vn, .int .i64 t.sym] ∧ IAt W0 va t.args ∧ Own w B 98 .u64 vn (dig W t.num.natAbs)
def RfRows (W0 : World) (B : Nat) (w : World) : List Tm → List Value → Prop
  | [], cs => cs = []
  | t :: l, cs => ∃ c r, cs = c ++ r ∧ RfTm W0 B w t c ∧ RfRows W0 B w l r
theorem RfTm.len {W0 w : World} {B : Nat} {t : Tm} {c : List Value} (h : RfTm W0 B w t c) : c.length = 5 := by
  obtain ⟨va, vn, rfl, _⟩ := h; rfl
theorem RfRows.snoc {W0 w : World} {B : Nat} {t : Tm} {c : List Value} : ∀ {l : List Tm} {cs : List Value}, RfRows W0 B w l cs → RfTm W0 B w t c → RfRows W0 B w (l ++ [t]) (cs ++ c)
  | [], _, h, ht => by
    subst h
    exact ⟨c, [], by simp, ht, rfl⟩
  | x :: l, _, ⟨c', r, rfl, hx, hr⟩, ht => ⟨c', r ++ c, by simp, hx, hr.snoc ht⟩
theorem RfRows.at {W0 w : World} {B : Nat} : ∀ {l : List Tm} {cs : List Value}, RfRows W0 B w l cs → ∀ i (h : i < l.length), ∃ c, RfTm W0 B w l[i] c ∧ ∀ j, j < 5 → cs[i * 5 + j]? = c[j]?
  | x :: l, _, ⟨c', r, rfl, hx, hr⟩, 0, _ => ⟨c', hx, fun j hj => by
      rw [Nat.zero_mul, Nat.zero_add, List.getElem?_append_left (by rw [hx.len]; exact hj)]⟩
  | x :: l, _, ⟨c', r, rfl, hx, hr⟩, i + 1, h => by
    obtain ⟨c, hc, hj⟩ := RfRows.at hr i (by simpa using h)
    refine ⟨c, hc, fun j hj' => ?_⟩
    rw [← hj j hj', List.getElem?_append_right (by rw [hx.len]; omega), hx.len]
    congr 1
    omega
/-- such rows stay where words stay -/
theorem RfRows.stays {W0 w w' : World} {B : Nat} (hb : ∀ (k : Nat), (∃ cc : Array Value, w.heap[k]? = some (Obj.cells cc 98 (0, 0))) → w'.heap[k]? = w.heap[k]?) : ∀ {l : List Tm} {cs : List Value}, RfRows W0 B w l cs → RfRows W0 B w' l cs
  | [], _, h => h
  | _ :: _, _, ⟨c', r, e, ⟨va, vn, e2, h1, h2⟩, hr⟩ => ⟨c', r, e, ⟨va, vn, e2, h1, row_stays h2 fun k hk => hb k (row_tag h2 k hk)⟩, hr.stays hb⟩
def RfIn (W0 : World) (B : Nat) (w : World) (v : Value) (l : List Tm) : Prop := ∃ cs, w.ownsRow B 39 5 v l.length cs ∧ RfRows W0 B w l cs
theorem RfIn.stays {W0 w w' : World} {B : Nat} {v : Value} {l : List Tm} (h : RfIn W0 B w v l) (hb : ∀ (k : Nat) (c : Array Value) t, w.heap[k]? = some (Obj.cells c t (0, 0)) → B ≤ k → (t = 98 ∨ v.ownBlock = some k) → w'.heap[k]? = w.heap[k]?) (hw : ∀ (k : Nat) (c : Array Value), w.heap[k]? = some (Obj.cells c 98 (0, 0)) → w'.heap[k]? = w.heap[k]?) : RfIn W0 B w' v l := by
  obtain ⟨cs, h1, h2⟩ := h
  refine ⟨cs, row_stays h1 fun k hk => ?_, h2.stays fun k ⟨cc, hc⟩ => hw k cc hc⟩
  obtain ⟨c, hc⟩ := row_tag h1 k hk
  exact hb k c _ hc (World.ownsRow.lt h1 k hk).1 (.inr hk)
theorem RfIn.below {W0 w w' : World} {B : Nat} {v : Value} {l : List Tm} (h : RfIn W0 B w v l) (hb : Below w.heap.size w w') : RfIn W0 B w' v l := by
  obtain ⟨cs, h1, h2⟩ := h
  exact ⟨cs, ownsRow_later h1 hb, h2.stays fun k ⟨cc, hc⟩ => hb.block k (lt_of_block hc)⟩
theorem RfIn.tms {W0 w : World} {B : Nat} {v : Value} {l : List Tm} (h : RfIn W0 B w v l) (h0 : Below W0.heap.size W0 w) (hs : ∀ t ∈ l, sz W t.num.natAbs ≤ 1099511627776) : TmsIn w v l := by
  obtain ⟨cs, hrow, hr⟩ := h
  obtain ⟨p, cap, rfl, h1, h2, h3, h4⟩ := row_handed (ownsRow_mono hrow (Nat.zero_le _))
  refine ⟨p, cap, rfl, h1, h2, h3, fun hl => ?_⟩
  obtain ⟨b, hp, hb, hc⟩ := h4 hl
  refine ⟨b, 0, hp, hb, fun i hi => ?_⟩
  obtain ⟨c, ⟨va, vn, rfl, k1, k2⟩, hj⟩ := hr.at i hi
  have e0 := hj 0 (by decide); have e1 := hj 1 (by decide); have e2 := hj 2 (by decide); have e3 := hj 3 (by decide); have e4 := hj 4 (by decide)
  refine ⟨_, _, _, _, _, by rw [Nat.zero_add]; exact hc _ _ e0, by rw [Nat.zero_add]; exact hc _ _ e1, by rw [Nat.zero_add]; exact hc _ _ e2, by rw [Nat.zero_add]; exact hc _ _ e3, by rw [Nat.zero_add]; exact hc _ _ e4, ?_⟩
  have k1' := k1.below h0
  obtain ⟨pa, ca, rfl, r1⟩ := id k1'
  have k3 := k2.at
  obtain ⟨pn, cn, rfl, r2⟩ := id k3
  exact ⟨pa, ca, _, pn, _, cn, rfl, k1', IntAt.raw ⟨_, rfl, k3⟩ (hs _ (List.getElem_mem hi))⟩
end Go.Proofs.YthheafjilbeddaaDoor
/- elenchusref04.Make. -/
namespace Go.Proofs.YthheafjilbeddaaDoor
open Go.RowKit Big Go.WideMaps

theorem PoGood.make {p : Po} {t : Tm} (h : PoGood p) (hw : plWrong p t = 0) (hl : p.terms.length < 4096) : PoGood ⟨p.syms, p.terms ++ [t], p.sorts ++ [plSort p t]⟩ := by
  obtain ⟨h1, h2, h3, h4⟩ := h
  obtain ⟨w1, w2, w3, w4, w5⟩ := plWrong_zero hw
  have hop : 1 ≤ t.op ∧ t.op ≤ 13 := by
    unfold plBadForm at w1
    simp only [Bool.or_eq_false_iff] at w1
    exact plRule_op w1.1.1
  have old : ∀ (j : Nat), j < p.terms.length → plSortAt ⟨p.syms, p.terms ++ [t], p.sorts ++ [plSort p t]⟩ (j : Nat) = plSortAt p (j : Nat) := fun j hj => by
    unfold plSortAt
    simp only [Int.toNat_natCast]
    rw [List.getElem?_append_left (by omega)]
  have srt : ∀ x : Tm, (x.op = 9 → ∃ (h1 : 1 < x.args.length) (j : Nat), x.args[1] = (j : Nat) ∧ j < p.terms.length) → plSort ⟨p.syms, p.terms ++ [t], p.sorts ++ [plSort p t]⟩ x = plSort p x := fun x hx => by
    unfold plSort
    by_cases e4 : x.op = 4
    · rw [if_pos e4, if_pos e4]; rfl
    · rw [if_neg e4, if_neg e4]
      by_cases e9 : x.op = 9
      · rw [if_pos e9, if_pos e9]
        obtain ⟨k1, j, k2, k3⟩ := hx e9
        rw [List.getElem?_eq_getElem k1, k2]
        exact old j k3
      · rw [if_neg e9, if_neg e9]
  refine ⟨by simp [h1], by simp; omega, h3, fun k hk => ?_⟩
  have hk' : k < p.terms.length + 1 := by simpa using hk
  by_cases hkk : k < p.terms.length
  · have e : (p.terms ++ [t])[k]'hk = p.terms[k] := List.getElem_append_left hkk
    show (((p.terms ++ [t])[k]'hk).op = 4 → _) ∧ _
    rw [e]
    obtain ⟨a1, a2, a3, a4, a5⟩ := h4 k hkk
    refine ⟨a1, a2, a3, a4, ?_⟩
    rw [old k hkk, srt _ (fun h => by obtain ⟨k1, j, k2, k3⟩ := a2 h; exact ⟨k1, j, k2, by omega⟩)]
    exact a5
  · have hke : k = p.terms.length := by omega
    have e : (p.terms ++ [t])[k]'hk = t := by subst hke; simp
    show (((p.terms ++ [t])[k]'hk).op = 4 → _) ∧ _
    rw [e]
    have hite := iteIn_of p t w3 w4
    refine ⟨fun h => ?_, fun h => ?_, hop.1, hop.2, ?_⟩
    · unfold plNoSym at w2
      simp [h] at w2
      exact ⟨t.sym.toNat, by omega, by show _ < p.syms.length; omega⟩
    · obtain ⟨k1, j, k2, k3⟩ := hite h
      exact ⟨k1, j, k2, by omega⟩
    · rw [srt t hite]
      unfold plSortAt
      simp only [Int.toNat_natCast]
      rw [hke, List.getElem?_append_right (by omega), h1]
      simp
def RRf (W0 : World) (B : Nat) (vs vr : Value) (r : Po × Int × Int) (w : World) (e : Ending) (w' : World) : Prop := ∃ vr', e = .returned (.tuple #[.agg #[vs, vr'], .int .i64 r.2.1, .int .i64 r.2.2]) ∧ RfIn W0 B w' vr' r.1.terms ∧ Apart (fun k => vr.ownBlock = some k) w w' ∧ (vr'.ownBlock = vr.ownBlock ∨ ∀ k, vr'.ownBlock = some k → w.heap.size ≤ k)
theorem agg5 {c0 c1 c2 c3 c4 d0 d1 d2 d3 d4 : Value} (e : (Value.agg #[c0, c1, c2, c3, c4]) = .agg #[d0, d1, d2, d3, d4]) : c0 = d0 ∧ c1 = d1 ∧ c2 = d2 ∧ c3 = d3 ∧ c4 = d4 := by
  simpa using e
theorem Apart.setNew {S : Nat → Prop} {a w : World} (h : Apart S a w) {q : Addr} (hq : a.heap.size ≤ q.block) (u : Value) : Apart S a (w.setCell q u) :=
  ⟨h.os, h.tape, h.output, by simpa [World.setCell] using h.size, fun k hk hn => (Below.heap_setCell _ _ _ _ (by omega)).trans (h.block k hk hn)⟩
theorem set2_same {w : World} {g : Nat} {a b : Value} {t : TypeId} (h : w.heap[g]? = some (.cells #[a, b] t (0, 0))) (u0 u1 : Value) :
    ((w.setCell ⟨g, 0, none⟩ u0).setCell ⟨g, 1, none⟩ u1).heap[g]? = some (.cells #[u0, u1] t (0, 0)) := by
  have := heap_setCell_same _ g 1 _ _ u1 (heap_setCell_same w g 0 _ _ u0 h)
  simpa using this
theorem RfIn.setFar {W0 w : World} {B : Nat} {v : Value} {l : List Tm} (h : RfIn W0 B w v l) (a : Addr) (u : Value) (c : Array Value) (t : TypeId) (ha : w.heap[a.block]? = some (.cells c t (0, 0))) (ht : t ≠ 98) (hv : v.ownBlock ≠ some a.block) : RfIn W0 B (w.setCell a u) v l :=
  h.stays (fun k c' t' hc _ hk => Below.heap_setCell _ _ _ _ (fun e => by
    rcases hk with rfl | hk
    · exact tag_ne hc (e ▸ ha) (fun e => ht e.symm) rfl
    · rw [e] at hk; exact hv hk)) (fun k c' hc => Below.heap_setCell _ _ _ _ (fun e => tag_ne hc (e ▸ ha) (fun e => ht e.symm) rfl))
theorem frozen_all {w : World} {g : Nat} {c : Array Value} {t : TypeId} (h : w.heap[g]? = some (.cells c t (0, 0))) (j : Nat) : w.frozen? ⟨g, j, none⟩ = false := frozen_of_row w g j _ _ h
set_option maxRecDepth 100000 in
set_option maxHeartbeats 25600000 in
theorem RMake_any (W0 : World) (B : Nat) (p : Po) (hp : PoGood p) (t : Tm) (vs vr vt : Value) (w : World) (h0 : Below W0.heap.size W0 w) (hB : B ≤ w.heap.size) (hs : SyIn W0 vs p.syms) (hr : RfIn W0 B w vr p.terms) (ht : TmRaw W0 vt t)
    (hst : sz W t.num.natAbs ≤ 549755813888) (hsl : ∀ x ∈ p.terms, sz W x.num.natAbs ≤ 549755813888) :
    Calls Tryd.prog 14 #[.agg #[vs, vr], vt] w (RRf W0 B vs vr (plMake p t) w) := by
  have hsl' : ∀ x ∈ p.terms, sz W x.num.natAbs ≤ 1099511627776 := fun x hx => Nat.le_trans (hsl x hx) (by omega)
  have hrw := fun w' (hb : Below w.heap.size w w') => (show RwIn w' (.agg #[vs, vr]) p.syms p.terms from ⟨_, _, rfl, hs.below (bel_go hb h0), (hr.below hb).tms (bel_go hb h0) hsl'⟩)
  have Hct := hid (fun w' hb => CheckTerm_any p hp t _ vt w' (hrw w' hb) (ht.below (bel_go hb h0)))
  have Hfi := hid (fun w' hb => Find_any p.syms p.terms t _ vt w' (hrw w' hb) (ht.below (bel_go hb h0)) hst hsl)
  have Hrf := hid hr
  have H0 := hid h0
  have hlen := hp.2.1
  obtain ⟨pc, cc, b, pm, nm, cm, rfl, hargs, hnum⟩ := ht
  obtain ⟨pa, ca, rfl, -, -, -, -⟩ := hs
  obtain ⟨cs, hrow, hrr⟩ := hr
  obtain ⟨pb, cb, rfl⟩ := ownsRow_shape hrow
  have Hrow := hid hrow; have Hrr := hid hrr
  obtain ⟨neg, sl, ws, eq1, hat, hsm, hwl, hval⟩ := hnum
  have eq2 : neg = b ∧ sl = .slice pm nm cm := by simpa using eq1.symm
  obtain ⟨rfl, rfl⟩ := eq2
  have hwh := fun w' (hb : Below w.heap.size w w') => Whole_own neg _ ws w' (hat.below (bel_go hb h0)) hsm (by omega)
  rw [← hval] at hwh
  have Hwh := hid hwh
  obtain ⟨r, hrd⟩ : ∃ r, r = plMake p t := ⟨_, rfl⟩
  rw [← hrd]
  have Hrd := hid hrd
  obtain ⟨er, her⟩ : ∃ er, er = plWrong p t := ⟨_, rfl⟩
  have Her := hid her
  rw [← her] at Hct
  obtain ⟨fi, hfi⟩ : ∃ fi, fi = rfFound p.terms t := ⟨_, rfl⟩
  have Hfd := hid hfi
  rw [← hfi] at Hfi
  clear hrw hrr hat hwh hval hrd her hfi eq1 h0 hsl hsl'
  have bx := below1 w (.cells #[.slice pa p.syms.length ca, .slice pb p.terms.length cb] 27)
  have hx0 := heap_alloc_new w (.cells #[.slice pa p.syms.length ca, .slice pb p.terms.length cb] 27)
  have hz := size_alloc w (.cells #[.slice pa p.syms.length ca, .slice pb p.terms.length cb] 27)
  have by_ := below1 (w.alloc (.cells #[.slice pa p.syms.length ca, .slice pb p.terms.length cb] 27)) (.cells #[.int .i64 t.op, .slice pc t.args.length cc, .bool neg, .slice pm nm cm, .int .i64 t.sym] 39)
  have hy0 := heap_alloc_new (w.alloc (.cells #[.slice pa p.syms.length ca, .slice pb p.terms.length cb] 27)) (.cells #[.int .i64 t.op, .slice pc t.args.length cc, .bool neg, .slice pm nm cm, .int .i64 t.sym] 39)
  have hz2 := size_alloc (w.alloc (.cells #[.slice pa p.syms.length ca, .slice pb p.terms.length cb] 27)) (.cells #[.int .i64 t.op, .slice pc t.args.length cc, .bool neg, .slice pm nm cm, .int .i64 t.sym] 39)
  rw [hz] at hy0 hz2
  have hx1 := (by_.block w.heap.size (by omega)).trans hx0
  have bw := bel_go by_ bx
  go_enter Tryd.func14, Tryd.ntmps14
  have bz := below1 ((w.alloc (.cells #[.slice pa p.syms.length ca, .slice pb p.terms.length cb] 27)).alloc (.cells #[.int .i64 t.op, .slice pc t.args.length cc, .bool neg, .slice pm nm cm, .int .i64 t.sym] 39)) (.cells #[.slice none 0 0, .slice none 0 0] 27)
  have hr0 := heap_alloc_new ((w.alloc (.cells #[.slice pa p.syms.length ca, .slice pb p.terms.length cb] 27)).alloc (.cells #[.int .i64 t.op, .slice pc t.args.length cc, .bool neg, .slice pm nm cm, .int .i64 t.sym] 39)) (.cells #[.slice none 0 0, .slice none 0 0] 27)
  have hz3 := size_alloc ((w.alloc (.cells #[.slice pa p.syms.length ca, .slice pb p.terms.length cb] 27)).alloc (.cells #[.int .i64 t.op, .slice pc t.args.length cc, .bool neg, .slice pm nm cm, .int .i64 t.sym] 39)) (.cells #[.slice none 0 0, .slice none 0 0] 27)
  rw [hz2] at hr0 hz3
  have hx3 := (bz.block w.heap.size (by omega)).trans hx1
  have hy3 := (bz.block (w.heap.size + 1) (by omega)).trans hy0
  have bw3 := bel_go bz bw
  go_upto_region 1 with fail
  generalize hW : (((w.alloc (.cells #[.slice pa p.syms.length ca, .slice pb p.terms.length cb] 27)).alloc (.cells #[.int .i64 t.op, .slice pc t.args.length cc, .bool neg, .slice pm nm cm, .int .i64 t.sym] 39)).alloc (.cells #[.slice none 0 0, .slice none 0 0] 27)) = W3 at *
  have q := two_cells hx3
  obtain ⟨z0, z1, -, -⟩ := q
  have q := five_cells hy3
  obtain ⟨y0, y1, y2, y3, y4⟩ := q
  have HX := hid hx3; have HY := hid hy3; have HR := hid hr0; have HB3 := hid bw3
  clear hW bx hx0 hz by_ hy0 hz2 hx1 bw bz hr0 hx3 hy3 bw3
  have back : Hid (∀ w', Below W3.heap.size W3 w' → RfIn W0 B w' (.slice pb p.terms.length cb) p.terms) := hid fun w' hb => (Hrf.out.below HB3.out).below hb
  have far : Hid (∀ u, (Value.slice pb p.terms.length cb).ownBlock = some u → u < w.heap.size) := hid fun u hu => (World.ownsRow.lt Hrow.out u hu).2
  go_wp2_with fail
  refine (Hct.out _ HB3.out).mono ?_
  rintro e w4 ⟨rfl, b4⟩
  clear z0 z1 y0 y1 y2 y3 y4
  have HB4 := hid b4
  clear b4
  have hx4 := (HB4.out.block w.heap.size (by omega)).trans HX.out
  have hy4 := (HB4.out.block (w.heap.size + 1) (by omega)).trans HY.out
  have hr4 := (HB4.out.block (w.heap.size + 2) (by omega)).trans HR.out
  have q := two_cells hx4
  obtain ⟨z0, z1, -, -⟩ := q
  have hz4 := HB4.out.size
  cases he : (er != 0)
  case true =>
    have hne : plWrong p t ≠ 0 := by rw [← Her.out]; simpa using he
    have q := two_cells hr4
    obtain ⟨r0, r1, -, -⟩ := q
    have f0 := frozen_all hr4 0; have f1 := frozen_all hr4 1
    have hr5 := set2_same hr4 (.slice pa p.syms.length ca) (.slice pb p.terms.length cb)
    have HR5 := hid hr5
    have hrd := plMake_bad hne
    have Hfin := hid hrd
    have hin4 := back.out w4 HB4.out
    have hin5 := (hin4.setFar ⟨w.heap.size + 2, 0, none⟩ (.slice pa p.syms.length ca) _ _ hr4 (by decide) (fun e => by have := far.out _ e; simp at this; omega))
    have hr45 := heap_setCell_same w4 (w.heap.size + 2) 0 _ _ (.slice pa p.syms.length ca) hr4
    have Hin5 := hid (hin5.setFar ⟨w.heap.size + 2, 1, none⟩ (.slice pb p.terms.length cb) _ _ hr45 (by decide) (fun e => by have := far.out _ e; simp at this; omega))
    have Hb5 := hid (((bel_go HB4.out HB3.out).setCell (p := ⟨w.heap.size + 2, 0, none⟩) (by show w.heap.size ≤ w.heap.size + 2; omega) (.slice pa p.syms.length ca)).setCell (p := ⟨w.heap.size + 2, 1, none⟩) (by show w.heap.size ≤ w.heap.size + 2; omega) (.slice pb p.terms.length cb))
    clear hx4 hy4 hr4 hr5 hrd hin4 hin5 hr45 hne
    go_wp2
    have q := two_cells HR5.out
    obtain ⟨s0, s1, -, -⟩ := q
    refine bodyPost_ret (v := .tuple #[.agg #[.slice pa p.syms.length ca, .slice pb p.terms.length cb], .int .i64 0, .int .i64 er]) (by simp [results, Tryd.results14, go_sem, s0, s1]) rfl ⟨_, ?_, ?_, Apart.of_below Hb5.out, .inl rfl⟩
    · rw [Hrd.out, Hfin.out, Her.out]
    · rw [Hrd.out, Hfin.out]; exact Hin5.out
  case false =>
  have hez : plWrong p t = 0 := by rw [← Her.out]; simpa using he
  have Hez := hid hez
  have q := five_cells hy4
  obtain ⟨y0, y1, y2, y3, y4⟩ := q
  clear hez
  go_wp2_with fail
  refine (Hfi.out _ (bel_go HB4.out HB3.out)).mono ?_
  rintro e w5 ⟨rfl, b5⟩
  clear z0 z1 y0 y1 y2 y3 y4 hx4 hy4 hr4
  have HB5 := hid (bel_go b5 HB4.out)
  clear b5 HB4
  have hx5 := (HB5.out.block w.heap.size (by omega)).trans HX.out
  have hy5 := (HB5.out.block (w.heap.size + 1) (by omega)).trans HY.out
  have hr5 := (HB5.out.block (w.heap.size + 2) (by omega)).trans HR.out
  have hz5 := HB5.out.size
  have q := two_cells hx5
  obtain ⟨z0, z1, -, -⟩ := q
  cases hf : plFind p.terms t with
  | some k =>
    have hfi : fi = (k : Nat) := by rw [Hfd.out]; unfold rfFound; rw [hf]
    have Hf := hid hf
    clear hf
    subst hfi
    have q := two_cells hr5
    obtain ⟨r0, r1, -, -⟩ := q
    have f0 := frozen_all hr5 0; have f1 := frozen_all hr5 1
    have hr6 := set2_same hr5 (.slice pa p.syms.length ca) (.slice pb p.terms.length cb)
    have HR6 := hid hr6
    have Hfin := hid (plMake_there Hez.out Hf.out)
    have hin5 := back.out w5 HB5.out
    have hin6 := (hin5.setFar ⟨w.heap.size + 2, 0, none⟩ (.slice pa p.syms.length ca) _ _ hr5 (by decide) (fun e => by have := far.out _ e; simp at this; omega))
    have hr56 := heap_setCell_same w5 (w.heap.size + 2) 0 _ _ (.slice pa p.syms.length ca) hr5
    have Hin6 := hid (hin6.setFar ⟨w.heap.size + 2, 1, none⟩ (.slice pb p.terms.length cb) _ _ hr56 (by decide) (fun e => by have := far.out _ e; simp at this; omega))
    have Hb6 := hid (((bel_go HB5.out HB3.out).setCell (p := ⟨w.heap.size + 2, 0, none⟩) (by show w.heap.size ≤ w.heap.size + 2; omega) (.slice pa p.syms.length ca)).setCell (p := ⟨w.heap.size + 2, 1, none⟩) (by show w.heap.size ≤ w.heap.size + 2; omega) (.slice pb p.terms.length cb))
    clear hx5 hy5 hr5 hr6 hin5 hin6 hr56
    go_wp2
    have q := two_cells HR6.out
    obtain ⟨s0, s1, -, -⟩ := q
    refine bodyPost_ret (v := .tuple #[.agg #[.slice pa p.syms.length ca, .slice pb p.terms.length cb], .int .i64 (k : Nat), .int .i64 0]) (by simp [results, Tryd.results14, go_sem, s0, s1]) rfl ⟨_, ?_, ?_, Apart.of_below Hb6.out, .inl rfl⟩
    · rw [Hrd.out, Hfin.out]
    · rw [Hrd.out, Hfin.out]; exact Hin6.out
  | none =>
    have hfi : fi = -1 := by rw [Hfd.out]; unfold rfFound; rw [hf]
    have Hf := hid hf
    clear hf
    subst hfi
    cases hfull : decide ((4096 : Int) ≤ (p.terms.length : Nat))
    case true =>
      have Hfl := hid (show p.terms.length = 4096 by have := of_decide_eq_true hfull; omega)
      have q := two_cells hr5
      obtain ⟨r0, r1, -, -⟩ := q
      have f0 := frozen_all hr5 0; have f1 := frozen_all hr5 1
      have hr6 := set2_same hr5 (.slice pa p.syms.length ca) (.slice pb p.terms.length cb)
      have HR6 := hid hr6
      have Hfin := hid (plMake_full Hez.out Hf.out Hfl.out)
      have hin5 := back.out w5 HB5.out
      have hin6 := (hin5.setFar ⟨w.heap.size + 2, 0, none⟩ (.slice pa p.syms.length ca) _ _ hr5 (by decide) (fun e => by have := far.out _ e; simp at this; omega))
      have hr56 := heap_setCell_same w5 (w.heap.size + 2) 0 _ _ (.slice pa p.syms.length ca) hr5
      have Hin6 := hid (hin6.setFar ⟨w.heap.size + 2, 1, none⟩ (.slice pb p.terms.length cb) _ _ hr56 (by decide) (fun e => by have := far.out _ e; simp at this; omega))
      have Hb6 := hid (((bel_go HB5.out HB3.out).setCell (p := ⟨w.heap.size + 2, 0, none⟩) (by show w.heap.size ≤ w.heap.size + 2; omega) (.slice pa p.syms.length ca)).setCell (p := ⟨w.heap.size + 2, 1, none⟩) (by show w.heap.size ≤ w.heap.size + 2; omega) (.slice pb p.terms.length cb))
      clear hx5 hy5 hr5 hr6 hin5 hin6 hr56
      go_wp2
      have q := two_cells HR6.out
      obtain ⟨s0, s1, -, -⟩ := q
      refine bodyPost_ret (v := .tuple #[.agg #[.slice pa p.syms.length ca, .slice pb p.terms.length cb], .int .i64 0, .int .i64 11]) (by simp [results, Tryd.results14, go_sem, s0, s1]) rfl ⟨_, ?_, ?_, Apart.of_below Hb6.out, .inl rfl⟩
      · rw [Hrd.out, Hfin.out]
      · rw [Hrd.out, Hfin.out]; exact Hin6.out
    case false =>
    have Hfl := hid (show p.terms.length < 4096 by have := of_decide_eq_false hfull; omega)
    have q := five_cells hy5
    obtain ⟨y0, y1, y2, y3, y4⟩ := q
    go_upto_region 9 with fail
    clear z0 z1 hfull
    go_wp2_with fail
    refine (Hwh.out _ (bel_go HB5.out HB3.out)).mono ?_
    rintro e w6 ⟨v6, rfl, hi6, b6⟩
    obtain ⟨p6, n6, c6, rfl, hi6⟩ := hi6.shape
    obtain ⟨sx, hsx, hown6⟩ := hi6
    have hsx : sx = .slice p6 n6 c6 := by simpa using hsx.symm
    subst hsx
    clear y0 y1 y2 y3 y4
    have HB6 := hid (bel_go b6 HB5.out)
    have hz6 := HB6.out.size
    have hx6 := (HB6.out.block w.heap.size (by omega)).trans HX.out
    have hy6 := (HB6.out.block (w.heap.size + 1) (by omega)).trans HY.out
    have q := five_cells hy6
    obtain ⟨y0, y1, y2, y3, y4⟩ := q
    have f2 := frozen_all hy6 2; have f3 := frozen_all hy6 3
    have hs6 := b6.size
    clear b6 hx5 hy5 hr5
    have hown6 := hown6.mono (base' := B) (by have := HB3.out.size; omega)
    have hlow6 : w.heap.size + 1 < w5.heap.size := by omega
    go_upto_region 10 with fail
    clear y0 y1 y2 y3 y4 f2 f3
    have hy7 := heap_setCell_same _ (w.heap.size + 1) 3 _ _ (.slice p6 n6 c6) (heap_setCell_same w6 (w.heap.size + 1) 2 _ _ (.bool (decide (t.num < 0))) hy6)
    simp only [List.setIfInBounds_toArray, List.set_cons_zero, List.set_cons_succ] at hy7
    have E7 : ∀ k, k ≠ w.heap.size + 1 → ((w6.setCell ⟨w.heap.size + 1, 2, none⟩ (.bool (decide (t.num < 0)))).setCell ⟨w.heap.size + 1, 3, none⟩ (.slice p6 n6 c6)).heap[k]? = w6.heap[k]? := fun k hk => (Below.heap_setCell _ _ _ _ hk).trans (Below.heap_setCell _ _ _ _ hk)
    have hz7 : ((w6.setCell ⟨w.heap.size + 1, 2, none⟩ (.bool (decide (t.num < 0)))).setCell ⟨w.heap.size + 1, 3, none⟩ (.slice p6 n6 c6)).heap.size = w6.heap.size := by simp [World.setCell]
    have bw7 : Below w.heap.size w ((w6.setCell ⟨w.heap.size + 1, 2, none⟩ (.bool (decide (t.num < 0)))).setCell ⟨w.heap.size + 1, 3, none⟩ (.slice p6 n6 c6)) := ((bel_go HB6.out HB3.out).setCell (p := ⟨w.heap.size + 1, 2, none⟩) (Nat.le_succ _) _).setCell (p := ⟨w.heap.size + 1, 3, none⟩) (Nat.le_succ _) _
    generalize hW7 : ((w6.setCell ⟨w.heap.size + 1, 2, none⟩ (.bool (decide (t.num < 0)))).setCell ⟨w.heap.size + 1, 3, none⟩ (.slice p6 n6 c6)) = w7 at *
    have hn7 : Own w7 B 98 .u64 (.slice p6 n6 c6) (dig W t.num.natAbs) := row_stays hown6 fun k hk => E7 k (fun e => tag_ne (row_tag hown6 k hk).choose_spec (e ▸ hy6) (by decide) rfl)
    have hrow7 := row_stays Hrow.out (w' := w7) fun k hk => (E7 k (by have := far.out k hk; omega)).trans (((bel_go HB6.out HB3.out).block k (far.out k hk)))
    have hrr7 := RfRows.stays (w' := w7) (fun k hk => (bel_go HB6.out HB3.out).block k (by obtain ⟨cc', hc⟩ := hk; exact lt_of_block hc) |> fun e => by
      obtain ⟨cc', hc⟩ := hk
      have hlt := lt_of_block hc
      exact (E7 k (by omega)).trans e) Hrr.out
    have hx7 := (E7 w.heap.size (by omega)).trans hx6
    have hr7 := (E7 (w.heap.size + 2) (by omega)).trans ((HB6.out.block (w.heap.size + 2) (by omega)).trans HR.out)
    clear hW7 hy6 hown6 hx6 E7
    have b8 := below1 w7 (.cells #[.int .i64 t.op, .slice pc t.args.length cc, .bool (decide (t.num < 0)), .slice p6 n6 c6, .int .i64 t.sym] 39)
    have hnews := cells_at (c := [.int .i64 t.op, .slice pc t.args.length cc, .bool (decide (t.num < 0)), .slice p6 n6 c6, .int .i64 t.sym]) (heap_alloc_new w7 (.cells #[.int .i64 t.op, .slice pc t.args.length cc, .bool (decide (t.num < 0)), .slice p6 n6 c6, .int .i64 t.sym] 39))
    have hrow8 := ownsRow_later hrow7 b8
    have hz8 := size_alloc w7 (.cells #[.int .i64 t.op, .slice pc t.args.length cc, .bool (decide (t.num < 0)), .slice p6 n6 c6, .int .i64 t.sym] 39)
    have hx8 := (b8.block w.heap.size (by omega)).trans hx7
    have hr8 := (b8.block (w.heap.size + 2) (by omega)).trans hr7
    have hn8 := Own.kept hn7 b8
    have hrr8 := RfRows.stays (w' := w7.alloc (.cells #[.int .i64 t.op, .slice pc t.args.length cc, .bool (decide (t.num < 0)), .slice p6 n6 c6, .int .i64 t.sym] 39)) (fun k hk => b8.block k (by obtain ⟨cc', hc⟩ := hk; exact lt_of_block hc)) hrr7
    have bw8 := bel_go b8 bw7
    have q := two_cells hx7
    obtain ⟨z0, z1, -, -⟩ := q
    have q := five_cells hy7
    obtain ⟨y0, y1, y2, y3, y4⟩ := q
    obtain ⟨i0, hii, hiz0, hiz1, hiz2⟩ := info_parts infoTerm
    have Hn8 := hid hn8; have Hrr8 := hid hrr8; have Hx8 := hid hx8; have Hr8 := hid hr8; have Hbw8 := hid bw8
    have hz7' := Nat.le_of_eq hz7.symm
    replace hz7 := Nat.le_of_eq hz7.symm
    replace hz8 := Nat.le_of_eq hz8.symm
    clear hn7 hrr7 hx7 hr7 b8 hrow7 hx8 hr8 hn8 hrr8 bw8 bw7 hy7
    go_wp2_with (at_builtin; refine wpList_append_own_at _ rfl _ _ 23 rfl B 39 i0 _ 5 72 Tryd.underlying23 hii hiz0 hiz1 hiz2 rfl (by decide) _ p.terms.length _ rfl hrow8 ⟨w7.heap.size, 0, none⟩ 1 1 [.int .i64 t.op, .slice pc t.args.length cc, .bool (decide (t.num < 0)), .slice p6 n6 c6, .int .i64 t.sym] rfl rfl hnews (by intro u hu; simp at hu; rcases hu with rfl | rfl | rfl | rfl | rfl <;> rfl) (by simp [maxLen]; omega) (by omega) (by have := HB3.out.size; omega) ?_; intro v9 w9 ho9 hg9 _ hat9; obtain ⟨p9, c9, rfl⟩ := ownsRow_shape ho9; have fN : (Value.slice pb p.terms.length cb).ownBlock ≠ some w.heap.size := (fun e => by have := far.out _ e; omega); have fR : (Value.slice pb p.terms.length cb).ownBlock ≠ some (w.heap.size + 2) := (fun e => by have := far.out _ e; omega); have hx9 := (hg9.block w.heap.size (by omega) (fun e => fN e.symm)).trans Hx8.out; have q9 := two_cells hx9; obtain ⟨zz0, zz1, zf0, zf1⟩ := q9)
    have hat9 : (Value.slice p9 (p.terms.length + 1) c9).ownBlock = (Value.slice pb p.terms.length cb).ownBlock ∨ (Value.slice p9 (p.terms.length + 1) c9).ownBlock = some (w7.alloc (.cells #[.int .i64 t.op, .slice pc t.args.length cc, .bool (decide (t.num < 0)), .slice p6 n6 c6, .int .i64 t.sym] 39)).heap.size := hat9
    have hx10 := heap_setCell_same w9 w.heap.size 1 _ _ (.slice p9 (p.terms.length + 1) c9) hx9
    simp only [List.setIfInBounds_toArray, List.set_cons_zero, List.set_cons_succ] at hx10
    have hr9 := (hg9.block (w.heap.size + 2) (by omega) (fun e => fR e.symm)).trans Hr8.out
    have hr10 := (Below.heap_setCell w9 ⟨w.heap.size, 1, none⟩ (.slice p9 (p.terms.length + 1) c9) (w.heap.size + 2) (by show w.heap.size + 2 ≠ w.heap.size; omega)).trans hr9
    have h9b : ∀ k, (Value.slice p9 (p.terms.length + 1) c9).ownBlock = some k → k < w.heap.size ∨ w6.heap.size ≤ k := fun k hk => by
      rcases hat9 with h | h
      · exact .inl (far.out k (by rw [← h]; exact hk))
      · rw [h] at hk; cases hk; exact .inr (Nat.le_trans hz7' (by simp))
    have hu9 : ∀ (k : Nat) (c : Array Value), (w7.alloc (.cells #[.int .i64 t.op, .slice pc t.args.length cc, .bool (decide (t.num < 0)), .slice p6 n6 c6, .int .i64 t.sym] 39)).heap[k]? = some (Obj.cells c 98 (0, 0)) → w9.heap[k]? = (w7.alloc (.cells #[.int .i64 t.op, .slice pc t.args.length cc, .bool (decide (t.num < 0)), .slice p6 n6 c6, .int .i64 t.sym] 39)).heap[k]? := fun k c hc => hg9.block k (lt_of_block hc) (fun e => by
      obtain ⟨c', hc'⟩ := row_tag hrow8 k e.symm
      exact tag_ne hc hc' (by decide) rfl)
    have hrr9 := RfRows.stays (w' := w9) (fun k hk => by obtain ⟨c', hc⟩ := hk; exact hu9 k c' hc) Hrr8.out
    have hn9 : Own w9 B 98 .u64 (.slice p6 n6 c6) (dig W t.num.natAbs) := row_stays Hn8.out fun k hk => by obtain ⟨c', hc⟩ := row_tag Hn8.out k hk; exact hu9 k c' hc
    have hin9 : RfIn W0 B w9 (.slice p9 (p.terms.length + 1) c9) (p.terms ++ [t]) := ⟨_, by rw [List.length_append]; exact ho9, hrr9.snoc ⟨_, _, rfl, hargs, hn9⟩⟩
    have hin10 := hin9.setFar ⟨w.heap.size, 1, none⟩ (.slice p9 (p.terms.length + 1) c9) _ _ hx9 (by decide) (fun e => by have := h9b _ e; simp at this; omega)
    have ha9 : Apart (fun k => (Value.slice pb p.terms.length cb).ownBlock = some k) w w9 := (Apart.of_below Hbw8.out).grown hg9 (fun k e => e)
    have ha10 := ha9.setNew (q := ⟨w.heap.size, 1, none⟩) (Nat.le_refl _) (.slice p9 (p.terms.length + 1) c9)
    have hat10 : (Value.slice p9 (p.terms.length + 1) c9).ownBlock = (Value.slice pb p.terms.length cb).ownBlock ∨ ∀ k, (Value.slice p9 (p.terms.length + 1) c9).ownBlock = some k → w.heap.size ≤ k := hat9.imp id fun h k hk => by
      rw [h] at hk; cases hk
      have := Hbw8.out.size
      have : w.heap.size ≤ w6.heap.size := by omega
      exact Nat.le_trans (Nat.le_trans this hz7') (by simp)
    generalize hW10 : (w9.setCell ⟨w.heap.size, 1, none⟩ (.slice p9 (p.terms.length + 1) c9)) = w10 at *
    have hin11 := hin10.setFar ⟨w.heap.size + 2, 0, none⟩ (.slice pa p.syms.length ca) _ _ hr10 (by decide) (fun e => by have := h9b _ e; simp at this; omega)
    have hr11 := heap_setCell_same w10 (w.heap.size + 2) 0 _ _ (.slice pa p.syms.length ca) hr10
    have Hin12 := hid (hin11.setFar ⟨w.heap.size + 2, 1, none⟩ (.slice p9 (p.terms.length + 1) c9) _ _ hr11 (by decide) (fun e => by have := h9b _ e; simp at this; omega))
    have HR12 := hid (set2_same hr10 (.slice pa p.syms.length ca) (.slice p9 (p.terms.length + 1) c9))
    have Ha12 := hid ((ha10.setNew (q := ⟨w.heap.size + 2, 0, none⟩) (by show w.heap.size ≤ w.heap.size + 2; omega) (.slice pa p.syms.length ca)).setNew (q := ⟨w.heap.size + 2, 1, none⟩) (by show w.heap.size ≤ w.heap.size + 2; omega) (.slice p9 (p.terms.length + 1) c9))
    have Hat := hid hat10
    have q := two_cells hx10
    obtain ⟨z0, z1, -, -⟩ := q
    have q := two_cells hr10
    obtain ⟨r0, r1, g0, g1⟩ := q
    clear hW10 hx10 hr9 hr10 h9b hu9 hrr9 hn9 hin9 hin10 ha9 ha10 hat10 hin11 hr11 hx9 zz0 zz1 zf0 zf1 hg9 hat9 ho9 Hx8 Hr8 Hrr8 Hn8 hnews hrow8
    have Hfin := hid (plMake_new Hez.out Hf.out (by have := Hfl.out; omega))
    go_region
    clear z0 z1 r0 r1 g0 g1
    go_wp2
    have q := two_cells HR12.out
    obtain ⟨s0, s1, -, -⟩ := q
    refine bodyPost_ret (v := .tuple #[.agg #[.slice pa p.syms.length ca, .slice p9 (p.terms.length + 1) c9], .int .i64 (p.terms.length : Nat), .int .i64 0]) (by simp [results, Tryd.results14, go_sem, s0, s1]) rfl ⟨_, ?_, ?_, Ha12.out.drew, Hat.out⟩
    · rw [Hrd.out, Hfin.out]
    · rw [Hrd.out, Hfin.out]; exact Hin12.out.stays (fun _ _ _ _ _ _ => rfl) (fun _ _ _ => rfl)
end Go.Proofs.YthheafjilbeddaaDoor
/- Rows that grow by terms that may be: each is at its own place, has the sort that is meant (made by gen_mkmath.py). -/
namespace Go.Proofs.YthheafjilbeddaaDoor
open Go.RowKit Big Go.WideMaps

/-- a pool whose terms, made one behind the other, come to their own places -/
def MkSelf (p : Po) : Prop := p.sorts.length = p.terms.length ∧ ∀ k (h : k < p.terms.length), plMake ⟨p.syms, p.terms.take k, p.sorts.take k⟩ p.terms[k] = (⟨p.syms, p.terms.take (k + 1), p.sorts.take (k + 1)⟩, ((k : Nat) : Int), 0)
theorem MkSelf.make {p : Po} (t : Tm) (h : MkSelf p) : MkSelf (plMake p t).1 ∧ (plMake p t).1.syms = p.syms ∧ ∀ x ∈ (plMake p t).1.terms, x ∈ p.terms ∨ x = t := by
  by_cases hw : plWrong p t = 0
  · cases hf : plFind p.terms t with
    | some k => rw [plMake_there hw hf]; exact ⟨h, rfl, fun x hx => .inl hx⟩
    | none =>
      by_cases h4 : p.terms.length = 4096
      · rw [plMake_full hw hf h4]; exact ⟨h, rfl, fun x hx => .inl hx⟩
      · have hm := plMake_new hw hf h4
        rw [hm]
        obtain ⟨h1, h2⟩ := h
        refine ⟨⟨by simp [h1], fun k hk => ?_⟩, rfl, fun x hx => by simpa using hx⟩
        have hk' : k < p.terms.length + 1 := by simpa using hk
        by_cases hlt : k < p.terms.length
        · show plMake ⟨p.syms, (p.terms ++ [t]).take k, (p.sorts ++ [plSort p t]).take k⟩ (p.terms ++ [t])[k] = (⟨p.syms, (p.terms ++ [t]).take (k + 1), (p.sorts ++ [plSort p t]).take (k + 1)⟩, ((k : Nat) : Int), 0)
          rw [List.take_append_of_le_length (by omega), List.take_append_of_le_length (by omega), List.take_append_of_le_length (by omega), List.take_append_of_le_length (by omega), List.getElem_append_left hlt]
          exact h2 k hlt
        · have e : k = p.terms.length := by omega
          subst e
          have e1 : (p.terms ++ [t]).take p.terms.length = p.terms := by simp
          have e2 : (p.sorts ++ [plSort p t]).take p.terms.length = p.sorts := by rw [← h1]; simp
          have e3 : (p.terms ++ [t]).take (p.terms.length + 1) = p.terms ++ [t] := List.take_of_length_le (by simp)
          have e4 : (p.sorts ++ [plSort p t]).take (p.terms.length + 1) = p.sorts ++ [plSort p t] := List.take_of_length_le (by simp [h1])
          have e5 : (p.terms ++ [t])[p.terms.length]'(by simp) = t := by simp
          show plMake ⟨p.syms, (p.terms ++ [t]).take p.terms.length, (p.sorts ++ [plSort p t]).take p.terms.length⟩ ((p.terms ++ [t])[p.terms.length]'(by simp)) = (⟨p.syms, (p.terms ++ [t]).take (p.terms.length + 1), (p.sorts ++ [plSort p t]).take (p.terms.length + 1)⟩, ((p.terms.length : Nat) : Int), 0)
          rw [e1, e2, e3, e4, e5]
          exact hm
  · rw [plMake_bad hw]; exact ⟨h, rfl, fun x hx => .inl hx⟩
theorem MkSelf.news {p : Po} (h : MkSelf p) : ∀ (n k : Nat), k + n = p.terms.length → (plNews ⟨p.syms, p.terms.take k, p.sorts.take k⟩ (p.terms.drop k)).2 = 0
  | 0, k, e => by rw [List.drop_of_length_le (by omega)]; rfl
  | n + 1, k, e => by
    have hk : k < p.terms.length := by omega
    rw [List.drop_eq_getElem_cons hk]
    have hnew : plNew ⟨p.syms, p.terms.take k, p.sorts.take k⟩ p.terms[k] = (⟨p.syms, p.terms.take (k + 1), p.sorts.take (k + 1)⟩, ((k : Nat) : Int), 0) := by
      unfold plNew
      rw [h.2 k hk, if_neg]
      intro h3
      have h4 := h3.2
      simp only [List.length_take] at h4
      omega
    unfold plNews
    rw [hnew, if_neg (by simp)]
    exact MkSelf.news h n (k + 1) (by omega)
theorem MkSelf.check {p : Po} (h : MkSelf p) (hs : plNewErr p.syms = 0) : plCheck p.syms p.terms = 0 := by
  unfold plCheck
  rw [if_neg (by simp [hs])]
  have := h.news p.terms.length 0 (by omega)
  rwa [List.drop_zero, List.take_zero, List.take_zero] at this
/-- a term of a sort -/
def IsTm (p : Po) (k : Nat) (s : Int) : Prop := k < p.terms.length ∧ plSortAt p (k : Nat) = s
/-- rows that are those and more -/
def MkExt (p p' : Po) : Prop := p'.syms = p.syms ∧ p.terms.length ≤ p'.terms.length ∧ ∀ i, i < p.terms.length → p'.terms[i]? = p.terms[i]? ∧ plSortAt p' (i : Nat) = plSortAt p (i : Nat)
theorem MkExt.refl (p : Po) : MkExt p p := ⟨rfl, Nat.le_refl _, fun _ _ => ⟨rfl, rfl⟩⟩
theorem MkExt.trans {a b c : Po} (h : MkExt a b) (k : MkExt b c) : MkExt a c := ⟨k.1.trans h.1, Nat.le_trans h.2.1 k.2.1, fun i hi => ⟨((k.2.2 i (Nat.lt_of_lt_of_le hi h.2.1)).1).trans (h.2.2 i hi).1, ((k.2.2 i (Nat.lt_of_lt_of_le hi h.2.1)).2).trans (h.2.2 i hi).2⟩⟩
theorem IsTm.ext {p p' : Po} {k : Nat} {s : Int} (h : IsTm p k s) (e : MkExt p p') : IsTm p' k s := ⟨Nat.lt_of_lt_of_le h.1 e.2.1, (e.2.2 k h.1).2.trans h.2⟩
/-- what elenchusmake's rows keep -/
structure MkP (p : Po) : Prop where
  good : PoGood p
  self : MkSelf p
  small : ∀ t ∈ p.terms, t.args.length ≤ 8 ∧ sz W t.num.natAbs ≤ 8
theorem MkP.make {p : Po} {t : Tm} (h : MkP p) (hw : plWrong p t = 0) (hl : p.terms.length < 4096) (hs : t.args.length ≤ 8 ∧ sz W t.num.natAbs ≤ 8) :
    ∃ p' k, plMake p t = (p', ((k : Nat) : Int), 0) ∧ MkP p' ∧ MkExt p p' ∧ IsTm p' k (plSort p t) ∧ p'.terms[k]? = some t ∧ p'.terms.length ≤ p.terms.length + 1 := by
  have hself := h.self.make t
  have hsml : ∀ x ∈ (plMake p t).1.terms, x.args.length ≤ 8 ∧ sz W x.num.natAbs ≤ 8 := fun x hx => by
    rcases hself.2.2 x hx with h1 | rfl
    · exact h.small x h1
    · exact hs
  cases hf : plFind p.terms t with
  | some k =>
    have hm := plMake_there hw hf
    obtain ⟨h1, h2⟩ := plFind_some hf
    refine ⟨p, k, hm, h, MkExt.refl p, ⟨h1, ?_⟩, by rw [List.getElem?_eq_getElem h1, h2], Nat.le_succ _⟩
    rw [(h.good.2.2.2 k h1).2.2.2.2, h2]
  | none =>
    have hm := plMake_new hw hf (by omega)
    rw [hm] at hself hsml
    have hlen := h.good.1
    refine ⟨_, p.terms.length, hm, ⟨h.good.make hw hl, hself.1, hsml⟩, ⟨rfl, by simp, fun i hi => ⟨?_, ?_⟩⟩, ⟨by simp, ?_⟩, by simp, by simp⟩
    · show (p.terms ++ [t])[i]? = _
      rw [List.getElem?_append_left hi]
    · unfold plSortAt
      simp only [Int.toNat_natCast]
      rw [List.getElem?_append_left (by omega)]
    · unfold plSortAt
      simp only [Int.toNat_natCast]
      rw [List.getElem?_append_right (by omega), hlen]
      simp
/-- a term that may be -/
theorem mk_right {p : Po} {t : Tm} (h1 : plBadForm t = false) (h2 : plNoSym p t = false) (h3 : plBadCount p t = false) (h4 : ∀ i (h : i < t.args.length), ∃ j : Nat, t.args[i] = (j : Nat) ∧ IsTm p j (plPart p t i)) : plWrong p t = 0 := by
  have hp : plNoPart p t = false := by
    unfold plNoPart
    rw [List.any_eq_false]
    intro x hx
    obtain ⟨i, hi, rfl⟩ := List.getElem_of_mem hx
    obtain ⟨j, e, h5, -⟩ := h4 i hi
    rw [e]
    unfold plNoTerm
    simp
    omega
  have hb : plBadSort p t = false := by
    unfold plBadSort
    rw [List.any_eq_false]
    rintro ⟨x, i⟩ hx
    rw [List.mem_zipIdx_iff_getElem?] at hx
    obtain ⟨hi, hx⟩ := List.getElem?_eq_some_iff.1 hx
    obtain ⟨j, e, -, h6⟩ := h4 i hi
    dsimp only at hx ⊢
    rw [← hx, e, h6]
    simp
  unfold plWrong
  rw [if_neg (by simp [h1]), if_neg (by simp [h2]), if_neg (by simp [hp]), if_neg (by simp [h3]), if_neg (by simp [hb])]
theorem mk_num (p : Po) (z : Int) : plWrong p ⟨3, [], z, 0⟩ = 0 := mk_right (by rfl) (by rfl) (by rfl) (fun i h => absurd h (by simp))
theorem mk_leaf (p : Po) (op : Int) (h : op = 1 ∨ op = 2) : plWrong p ⟨op, [], 0, 0⟩ = 0 := by
  rcases h with rfl | rfl <;> exact mk_right (by rfl) (by rfl) (by rfl) (fun i h => absurd h (by simp))
theorem mk_app (p : Po) (k : Nat) (args : List Int) (hk : k < p.syms.length) (hl : (args.length : Int) = p.syms[k].arity) (ha : ∀ x ∈ args, ∃ j : Nat, x = (j : Nat) ∧ IsTm p j 2) : plWrong p ⟨4, args, 0, (k : Nat)⟩ = 0 := by
  refine mk_right (by rfl) ?_ ?_ (fun i h => ?_)
  · unfold plNoSym
    simp
    omega
  · unfold plBadCount plSymAt
    simp only [if_pos, Int.toNat_natCast, List.getElem?_eq_getElem hk, Option.getD_some]
    simp [hl]
  · obtain ⟨j, e, h5⟩ := ha _ (List.getElem_mem h)
    refine ⟨j, e, ?_⟩
    show IsTm p j (plPart p ⟨4, args, 0, (k : Nat)⟩ i)
    have : plPart p ⟨4, args, 0, (k : Nat)⟩ i = 2 := by
      unfold plPart
      rw [if_neg (by simp)]
      rfl
    rw [this]
    exact h5
theorem mk_one (p : Po) (a : Nat) (ha : IsTm p a 1) : plWrong p ⟨5, [(a : Nat)], 0, 0⟩ = 0 := mk_right (by rfl) (by rfl) (by rfl) (fun i h => by
  have : i = 0 := by simpa using h
  subst this
  exact ⟨a, rfl, ha⟩)
theorem mk_mul (p : Po) (a : Nat) (z : Int) (ha : IsTm p a 2) : plWrong p ⟨13, [(a : Nat)], z, 0⟩ = 0 := mk_right (by rfl) (by rfl) (by rfl) (fun i h => by
  have : i = 0 := by simpa using h
  subst this
  exact ⟨a, rfl, ha⟩)
theorem mk_two (p : Po) (op : Int) (a b : Nat) (s : Int) (hop : (s = 1 ∧ (op = 6 ∨ op = 7 ∨ op = 8)) ∨ (s = 2 ∧ (op = 10 ∨ op = 11 ∨ op = 12))) (ha : IsTm p a s) (hb : IsTm p b s) : plWrong p ⟨op, [(a : Nat), (b : Nat)], 0, 0⟩ = 0 := by
  have hi : ∀ i, i < 2 → i = 0 ∨ i = 1 := fun i h => by omega
  rcases hop with ⟨rfl, rfl | rfl | rfl⟩ | ⟨rfl, rfl | rfl | rfl⟩ <;> (
    refine mk_right (by rfl) (by rfl) (by rfl) (fun i h => ?_)
    rcases hi i h with rfl | rfl
    · exact ⟨a, rfl, ha⟩
    · exact ⟨b, rfl, hb⟩)
theorem mk_ite (p : Po) (c a b : Nat) (s : Int) (hc : IsTm p c 1) (ha : IsTm p a s) (hb : IsTm p b s) : plWrong p ⟨9, [(c : Nat), (a : Nat), (b : Nat)], 0, 0⟩ = 0 ∧ plSort p ⟨9, [(c : Nat), (a : Nat), (b : Nat)], 0, 0⟩ = s := by
  have hi : ∀ i, i < 3 → i = 0 ∨ i = 1 ∨ i = 2 := fun i h => by omega
  have e : ∀ i, 0 < i → plPart p ⟨9, [(c : Nat), (a : Nat), (b : Nat)], 0, 0⟩ i = s := fun i h => by
    unfold plPart
    rw [if_pos ⟨rfl, h⟩]
    exact ha.2
  refine ⟨mk_right (by rfl) (by rfl) (by rfl) (fun i h => ?_), ha.2⟩
  rcases hi i h with rfl | rfl | rfl
  · exact ⟨c, rfl, hc⟩
  · exact ⟨a, rfl, by rw [e 1 (by decide)]; exact ha⟩
  · exact ⟨b, rfl, by rw [e 2 (by decide)]; exact hb⟩
end Go.Proofs.YthheafjilbeddaaDoor
/- elenchusref04.Make once more, with the parts' rows under any predicate (made by gen_mkref.py out of XPlRef5 and XPlRef6). -/
namespace Go.Proofs.YthheafjilbeddaaDoor
open Go.RowKit Big Go.WideMaps

/-- a term in a row that the reference has made: its parts' numbers as they came in, its number in memory of its own -/
def MfTm (Q : Value → List Int → Prop) (B : Nat) (w : World) (t : Tm) (c : List Value) : Prop := ∃ va vn, c = [.int .i64 t.op, va, .bool (decide (t.num < 0)), vn, .int .i64 t.sym] ∧ Q va t.args ∧ Own w B 98 .u64 vn (dig W t.num.natAbs)
def MfRows (Q : Value → List Int → Prop) (B : Nat) (w : World) : List Tm → List Value → Prop
  | [], cs => cs = []
  | t :: l, cs => ∃ c r, cs = c ++ r ∧ MfTm Q B w t c ∧ MfRows Q B w l r
theorem MfTm.len {Q : Value → List Int → Prop} {w : World} {B : Nat} {t : Tm} {c : List Value} (h : MfTm Q B w t c) : c.length = 5 := by
  obtain ⟨va, vn, rfl, _⟩ := h; rfl
theorem MfRows.snoc {Q : Value → List Int → Prop} {w : World} {B : Nat} {t : Tm} {c : List Value} : ∀ {l : List Tm} {cs : List Value}, MfRows Q B w l cs → MfTm Q B w t c → MfRows Q B w (l ++ [t]) (cs ++ c)
  | [], _, h, ht => by
    subst h
    exact ⟨c, [], by simp, ht, rfl⟩
  | x :: l, _, ⟨c', r, rfl, hx, hr⟩, ht => ⟨c', r ++ c, by simp, hx, hr.snoc ht⟩
theorem MfRows.at {Q : Value → List Int → Prop} {w : World} {B : Nat} : ∀ {l : List Tm} {cs : List Value}, MfRows Q B w l cs → ∀ i (h : i < l.length), ∃ c, MfTm Q B w l[i] c ∧ ∀ j, j < 5 → cs[i * 5 + j]? = c[j]?
  | x :: l, _, ⟨c', r, rfl, hx, hr⟩, 0, _ => ⟨c', hx, fun j hj => by
      rw [Nat.zero_mul, Nat.zero_add, List.getElem?_append_left (by rw [hx.len]; exact hj)]⟩
  | x :: l, _, ⟨c', r, rfl, hx, hr⟩, i + 1, h => by
    obtain ⟨c, hc, hj⟩ := MfRows.at hr i (by simpa using h)
    refine ⟨c, hc, fun j hj' => ?_⟩
    rw [← hj j hj', List.getElem?_append_right (by rw [hx.len]; omega), hx.len]
    congr 1
    omega
/-- such rows stay where words stay -/
theorem MfRows.stays {Q : Value → List Int → Prop} {w w' : World} {B : Nat} (hb : ∀ (k : Nat), (∃ cc : Array Value, w.heap[k]? = some (Obj.cells cc 98 (0, 0))) → w'.heap[k]? = w.heap[k]?) : ∀ {l : List Tm} {cs : List Value}, MfRows Q B w l cs → MfRows Q B w' l cs
  | [], _, h => h
  | _ :: _, _, ⟨c', r, e, ⟨va, vn, e2, h1, h2⟩, hr⟩ => ⟨c', r, e, ⟨va, vn, e2, h1, row_stays h2 fun k hk => hb k (row_tag h2 k hk)⟩, hr.stays hb⟩
def MfIn (Q : Value → List Int → Prop) (B : Nat) (w : World) (v : Value) (l : List Tm) : Prop := ∃ cs, w.ownsRow B 39 5 v l.length cs ∧ MfRows Q B w l cs
theorem MfIn.stays {Q : Value → List Int → Prop} {w w' : World} {B : Nat} {v : Value} {l : List Tm} (h : MfIn Q B w v l) (hb : ∀ (k : Nat) (c : Array Value) t, w.heap[k]? = some (Obj.cells c t (0, 0)) → B ≤ k → (t = 98 ∨ v.ownBlock = some k) → w'.heap[k]? = w.heap[k]?) (hw : ∀ (k : Nat) (c : Array Value), w.heap[k]? = some (Obj.cells c 98 (0, 0)) → w'.heap[k]? = w.heap[k]?) : MfIn Q B w' v l := by
  obtain ⟨cs, h1, h2⟩ := h
  refine ⟨cs, row_stays h1 fun k hk => ?_, h2.stays fun k ⟨cc, hc⟩ => hw k cc hc⟩
  obtain ⟨c, hc⟩ := row_tag h1 k hk
  exact hb k c _ hc (World.ownsRow.lt h1 k hk).1 (.inr hk)
theorem MfIn.below {Q : Value → List Int → Prop} {w w' : World} {B : Nat} {v : Value} {l : List Tm} (h : MfIn Q B w v l) (hb : Below w.heap.size w w') : MfIn Q B w' v l := by
  obtain ⟨cs, h1, h2⟩ := h
  exact ⟨cs, ownsRow_later h1 hb, h2.stays fun k ⟨cc, hc⟩ => hb.block k (lt_of_block hc)⟩
theorem MfIn.tms {Q : Value → List Int → Prop} {w : World} {B : Nat} {v : Value} {l : List Tm} (h : MfIn Q B w v l) (h0 : ∀ va l, Q va l → IAt w va l) (hs : ∀ t ∈ l, sz W t.num.natAbs ≤ 1099511627776) : TmsIn w v l := by
  obtain ⟨cs, hrow, hr⟩ := h
  obtain ⟨p, cap, rfl, h1, h2, h3, h4⟩ := row_handed (ownsRow_mono hrow (Nat.zero_le _))
  refine ⟨p, cap, rfl, h1, h2, h3, fun hl => ?_⟩
  obtain ⟨b, hp, hb, hc⟩ := h4 hl
  refine ⟨b, 0, hp, hb, fun i hi => ?_⟩
  obtain ⟨c, ⟨va, vn, rfl, k1, k2⟩, hj⟩ := hr.at i hi
  have e0 := hj 0 (by decide); have e1 := hj 1 (by decide); have e2 := hj 2 (by decide); have e3 := hj 3 (by decide); have e4 := hj 4 (by decide)
  refine ⟨_, _, _, _, _, by rw [Nat.zero_add]; exact hc _ _ e0, by rw [Nat.zero_add]; exact hc _ _ e1, by rw [Nat.zero_add]; exact hc _ _ e2, by rw [Nat.zero_add]; exact hc _ _ e3, by rw [Nat.zero_add]; exact hc _ _ e4, ?_⟩
  have k1' := h0 _ _ k1
  obtain ⟨pa, ca, rfl, r1⟩ := id k1'
  have k3 := k2.at
  obtain ⟨pn, cn, rfl, r2⟩ := id k3
  exact ⟨pa, ca, _, pn, _, cn, rfl, k1', IntAt.raw ⟨_, rfl, k3⟩ (hs _ (List.getElem_mem hi))⟩
def MRf (Q : Value → List Int → Prop) (B : Nat) (vs vr : Value) (r : Po × Int × Int) (w : World) (e : Ending) (w' : World) : Prop := ∃ vr', e = .returned (.tuple #[.agg #[vs, vr'], .int .i64 r.2.1, .int .i64 r.2.2]) ∧ MfIn Q B w' vr' r.1.terms ∧ Apart (fun k => vr.ownBlock = some k) w w' ∧ (vr'.ownBlock = vr.ownBlock ∨ ∀ k, vr'.ownBlock = some k → w.heap.size ≤ k)
theorem MfIn.setFar {Q : Value → List Int → Prop} {w : World} {B : Nat} {v : Value} {l : List Tm} (h : MfIn Q B w v l) (a : Addr) (u : Value) (c : Array Value) (t : TypeId) (ha : w.heap[a.block]? = some (.cells c t (0, 0))) (ht : t ≠ 98) (hv : v.ownBlock ≠ some a.block) : MfIn Q B (w.setCell a u) v l :=
  h.stays (fun k c' t' hc _ hk => Below.heap_setCell _ _ _ _ (fun e => by
    rcases hk with rfl | hk
    · exact tag_ne hc (e ▸ ha) (fun e => ht e.symm) rfl
    · rw [e] at hk; exact hv hk)) (fun k c' hc => Below.heap_setCell _ _ _ _ (fun e => tag_ne hc (e ▸ ha) (fun e => ht e.symm) rfl))
set_option maxRecDepth 100000 in
set_option maxHeartbeats 25600000 in
theorem MMake_any (Q : Value → List Int → Prop) (B : Nat) (p : Po) (hp : PoGood p) (t : Tm) (vs vr vt : Value) (w : World) (hQ : ∀ va l, Q va l → IAt w va l) (hB : B ≤ w.heap.size) (hs : SyIn w vs p.syms) (hr : MfIn Q B w vr p.terms) (ht : TmRaw w vt t) (hqt : ∀ c0 va c2 c3 c4, vt = .agg #[c0, va, c2, c3, c4] → Q va t.args)
    (hst : sz W t.num.natAbs ≤ 549755813888) (hsl : ∀ x ∈ p.terms, sz W x.num.natAbs ≤ 549755813888) :
    Calls Tryd.prog 14 #[.agg #[vs, vr], vt] w (MRf Q B vs vr (plMake p t) w) := by
  have h0 : Below w.heap.size w w := Below.refl _ _
  have hsl' : ∀ x ∈ p.terms, sz W x.num.natAbs ≤ 1099511627776 := fun x hx => Nat.le_trans (hsl x hx) (by omega)
  have hrw := fun w' (hb : Below w.heap.size w w') => (show RwIn w' (.agg #[vs, vr]) p.syms p.terms from ⟨_, _, rfl, hs.below (bel_go hb h0), (hr.below hb).tms (fun va l q => (hQ va l q).below hb) hsl'⟩)
  have Hct := hid (fun w' hb => CheckTerm_any p hp t _ vt w' (hrw w' hb) (ht.below (bel_go hb h0)))
  have Hfi := hid (fun w' hb => Find_any p.syms p.terms t _ vt w' (hrw w' hb) (ht.below (bel_go hb h0)) hst hsl)
  have Hrf := hid hr
  have H0 := hid h0
  have hlen := hp.2.1
  obtain ⟨pc, cc, b, pm, nm, cm, rfl, -, hnum⟩ := ht
  have hargs := hqt _ _ _ _ _ rfl
  obtain ⟨pa, ca, rfl, -, -, -, -⟩ := hs
  obtain ⟨cs, hrow, hrr⟩ := hr
  obtain ⟨pb, cb, rfl⟩ := ownsRow_shape hrow
  have Hrow := hid hrow; have Hrr := hid hrr
  obtain ⟨neg, sl, ws, eq1, hat, hsm, hwl, hval⟩ := hnum
  have eq2 : neg = b ∧ sl = .slice pm nm cm := by simpa using eq1.symm
  obtain ⟨rfl, rfl⟩ := eq2
  have hwh := fun w' (hb : Below w.heap.size w w') => Whole_own neg _ ws w' (hat.below (bel_go hb h0)) hsm (by omega)
  rw [← hval] at hwh
  have Hwh := hid hwh
  obtain ⟨r, hrd⟩ : ∃ r, r = plMake p t := ⟨_, rfl⟩
  rw [← hrd]
  have Hrd := hid hrd
  obtain ⟨er, her⟩ : ∃ er, er = plWrong p t := ⟨_, rfl⟩
  have Her := hid her
  rw [← her] at Hct
  obtain ⟨fi, hfi⟩ : ∃ fi, fi = rfFound p.terms t := ⟨_, rfl⟩
  have Hfd := hid hfi
  rw [← hfi] at Hfi
  clear hrw hrr hat hwh hval hrd her hfi eq1 h0 hsl hsl'
  have bx := below1 w (.cells #[.slice pa p.syms.length ca, .slice pb p.terms.length cb] 27)
  have hx0 := heap_alloc_new w (.cells #[.slice pa p.syms.length ca, .slice pb p.terms.length cb] 27)
  have hz := size_alloc w (.cells #[.slice pa p.syms.length ca, .slice pb p.terms.length cb] 27)
  have by_ := below1 (w.alloc (.cells #[.slice pa p.syms.length ca, .slice pb p.terms.length cb] 27)) (.cells #[.int .i64 t.op, .slice pc t.args.length cc, .bool neg, .slice pm nm cm, .int .i64 t.sym] 39)
  have hy0 := heap_alloc_new (w.alloc (.cells #[.slice pa p.syms.length ca, .slice pb p.terms.length cb] 27)) (.cells #[.int .i64 t.op, .slice pc t.args.length cc, .bool neg, .slice pm nm cm, .int .i64 t.sym] 39)
  have hz2 := size_alloc (w.alloc (.cells #[.slice pa p.syms.length ca, .slice pb p.terms.length cb] 27)) (.cells #[.int .i64 t.op, .slice pc t.args.length cc, .bool neg, .slice pm nm cm, .int .i64 t.sym] 39)
  rw [hz] at hy0 hz2
  have hx1 := (by_.block w.heap.size (by omega)).trans hx0
  have bw := bel_go by_ bx
  go_enter Tryd.func14, Tryd.ntmps14
  have bz := below1 ((w.alloc (.cells #[.slice pa p.syms.length ca, .slice pb p.terms.length cb] 27)).alloc (.cells #[.int .i64 t.op, .slice pc t.args.length cc, .bool neg, .slice pm nm cm, .int .i64 t.sym] 39)) (.cells #[.slice none 0 0, .slice none 0 0] 27)
  have hr0 := heap_alloc_new ((w.alloc (.cells #[.slice pa p.syms.length ca, .slice pb p.terms.length cb] 27)).alloc (.cells #[.int .i64 t.op, .slice pc t.args.length cc, .bool neg, .slice pm nm cm, .int .i64 t.sym] 39)) (.cells #[.slice none 0 0, .slice none 0 0] 27)
  have hz3 := size_alloc ((w.alloc (.cells #[.slice pa p.syms.length ca, .slice pb p.terms.length cb] 27)).alloc (.cells #[.int .i64 t.op, .slice pc t.args.length cc, .bool neg, .slice pm nm cm, .int .i64 t.sym] 39)) (.cells #[.slice none 0 0, .slice none 0 0] 27)
  rw [hz2] at hr0 hz3
  have hx3 := (bz.block w.heap.size (by omega)).trans hx1
  have hy3 := (bz.block (w.heap.size + 1) (by omega)).trans hy0
  have bw3 := bel_go bz bw
  go_upto_region 1 with fail
  generalize hW : (((w.alloc (.cells #[.slice pa p.syms.length ca, .slice pb p.terms.length cb] 27)).alloc (.cells #[.int .i64 t.op, .slice pc t.args.length cc, .bool neg, .slice pm nm cm, .int .i64 t.sym] 39)).alloc (.cells #[.slice none 0 0, .slice none 0 0] 27)) = W3 at *
  have q := two_cells hx3
  obtain ⟨z0, z1, -, -⟩ := q
  have q := five_cells hy3
  obtain ⟨y0, y1, y2, y3, y4⟩ := q
  have HX := hid hx3; have HY := hid hy3; have HR := hid hr0; have HB3 := hid bw3
  clear hW bx hx0 hz by_ hy0 hz2 hx1 bw bz hr0 hx3 hy3 bw3
  have back : Hid (∀ w', Below W3.heap.size W3 w' → MfIn Q B w' (.slice pb p.terms.length cb) p.terms) := hid fun w' hb => (Hrf.out.below HB3.out).below hb
  have far : Hid (∀ u, (Value.slice pb p.terms.length cb).ownBlock = some u → u < w.heap.size) := hid fun u hu => (World.ownsRow.lt Hrow.out u hu).2
  go_wp2_with fail
  refine (Hct.out _ HB3.out).mono ?_
  rintro e w4 ⟨rfl, b4⟩
  clear z0 z1 y0 y1 y2 y3 y4
  have HB4 := hid b4
  clear b4
  have hx4 := (HB4.out.block w.heap.size (by omega)).trans HX.out
  have hy4 := (HB4.out.block (w.heap.size + 1) (by omega)).trans HY.out
  have hr4 := (HB4.out.block (w.heap.size + 2) (by omega)).trans HR.out
  have q := two_cells hx4
  obtain ⟨z0, z1, -, -⟩ := q
  have hz4 := HB4.out.size
  cases he : (er != 0)
  case true =>
    have hne : plWrong p t ≠ 0 := by rw [← Her.out]; simpa using he
    have q := two_cells hr4
    obtain ⟨r0, r1, -, -⟩ := q
    have f0 := frozen_all hr4 0; have f1 := frozen_all hr4 1
    have hr5 := set2_same hr4 (.slice pa p.syms.length ca) (.slice pb p.terms.length cb)
    have HR5 := hid hr5
    have hrd := plMake_bad hne
    have Hfin := hid hrd
    have hin4 := back.out w4 HB4.out
    have hin5 := (hin4.setFar ⟨w.heap.size + 2, 0, none⟩ (.slice pa p.syms.length ca) _ _ hr4 (by decide) (fun e => by have := far.out _ e; simp at this; omega))
    have hr45 := heap_setCell_same w4 (w.heap.size + 2) 0 _ _ (.slice pa p.syms.length ca) hr4
    have Hin5 := hid (hin5.setFar ⟨w.heap.size + 2, 1, none⟩ (.slice pb p.terms.length cb) _ _ hr45 (by decide) (fun e => by have := far.out _ e; simp at this; omega))
    have Hb5 := hid (((bel_go HB4.out HB3.out).setCell (p := ⟨w.heap.size + 2, 0, none⟩) (by show w.heap.size ≤ w.heap.size + 2; omega) (.slice pa p.syms.length ca)).setCell (p := ⟨w.heap.size + 2, 1, none⟩) (by show w.heap.size ≤ w.heap.size + 2; omega) (.slice pb p.terms.length cb))
    clear hx4 hy4 hr4 hr5 hrd hin4 hin5 hr45 hne
    go_wp2
    have q := two_cells HR5.out
    obtain ⟨s0, s1, -, -⟩ := q
    refine bodyPost_ret (v := .tuple #[.agg #[.slice pa p.syms.length ca, .slice pb p.terms.length cb], .int .i64 0, .int .i64 er]) (by simp [results, Tryd.results14, go_sem, s0, s1]) rfl ⟨_, ?_, ?_, Apart.of_below Hb5.out, .inl rfl⟩
    · rw [Hrd.out, Hfin.out, Her.out]
    · rw [Hrd.out, Hfin.out]; exact Hin5.out
  case false =>
  have hez : plWrong p t = 0 := by rw [← Her.out]; simpa using he
  have Hez := hid hez
  have q := five_cells hy4
  obtain ⟨y0, y1, y2, y3, y4⟩ := q
  clear hez
  go_wp2_with fail
  refine (Hfi.out _ (bel_go HB4.out HB3.out)).mono ?_
  rintro e w5 ⟨rfl, b5⟩
  clear z0 z1 y0 y1 y2 y3 y4 hx4 hy4 hr4
  have HB5 := hid (bel_go b5 HB4.out)
  clear b5 HB4
  have hx5 := (HB5.out.block w.heap.size (by omega)).trans HX.out
  have hy5 := (HB5.out.block (w.heap.size + 1) (by omega)).trans HY.out
  have hr5 := (HB5.out.block (w.heap.size + 2) (by omega)).trans HR.out
  have hz5 := HB5.out.size
  have q := two_cells hx5
  obtain ⟨z0, z1, -, -⟩ := q
  cases hf : plFind p.terms t with
  | some k =>
    have hfi : fi = (k : Nat) := by rw [Hfd.out]; unfold rfFound; rw [hf]
    have Hf := hid hf
    clear hf
    subst hfi
    have q := two_cells hr5
    obtain ⟨r0, r1, -, -⟩ := q
    have f0 := frozen_all hr5 0; have f1 := frozen_all hr5 1
    have hr6 := set2_same hr5 (.slice pa p.syms.length ca) (.slice pb p.terms.length cb)
    have HR6 := hid hr6
    have Hfin := hid (plMake_there Hez.out Hf.out)
    have hin5 := back.out w5 HB5.out
    have hin6 := (hin5.setFar ⟨w.heap.size + 2, 0, none⟩ (.slice pa p.syms.length ca) _ _ hr5 (by decide) (fun e => by have := far.out _ e; simp at this; omega))
    have hr56 := heap_setCell_same w5 (w.heap.size + 2) 0 _ _ (.slice pa p.syms.length ca) hr5
    have Hin6 := hid (hin6.setFar ⟨w.heap.size + 2, 1, none⟩ (.slice pb p.terms.length cb) _ _ hr56 (by decide) (fun e => by have := far.out _ e; simp at this; omega))
    have Hb6 := hid (((bel_go HB5.out HB3.out).setCell (p := ⟨w.heap.size + 2, 0, none⟩) (by show w.heap.size ≤ w.heap.size + 2; omega) (.slice pa p.syms.length ca)).setCell (p := ⟨w.heap.size + 2, 1, none⟩) (by show w.heap.size ≤ w.heap.size + 2; omega) (.slice pb p.terms.length cb))
    clear hx5 hy5 hr5 hr6 hin5 hin6 hr56
    go_wp2
    have q := two_cells HR6.out
    obtain ⟨s0, s1, -, -⟩ := q
    refine bodyPost_ret (v := .tuple #[.agg #[.slice pa p.syms.length ca, .slice pb p.terms.length cb], .int .i64 (k : Nat), .int .i64 0]) (by simp [results, Tryd.results14, go_sem, s0, s1]) rfl ⟨_, ?_, ?_, Apart.of_below Hb6.out, .inl rfl⟩
    · rw [Hrd.out, Hfin.out]
    · rw [Hrd.out, Hfin.out]; exact Hin6.out
  | none =>
    have hfi : fi = -1 := by rw [Hfd.out]; unfold rfFound; rw [hf]
    have Hf := hid hf
    clear hf
    subst hfi
    cases hfull : decide ((4096 : Int) ≤ (p.terms.length : Nat))
    case true =>
      have Hfl := hid (show p.terms.length = 4096 by have := of_decide_eq_true hfull; omega)
      have q := two_cells hr5
      obtain ⟨r0, r1, -, -⟩ := q
      have f0 := frozen_all hr5 0; have f1 := frozen_all hr5 1
      have hr6 := set2_same hr5 (.slice pa p.syms.length ca) (.slice pb p.terms.length cb)
      have HR6 := hid hr6
      have Hfin := hid (plMake_full Hez.out Hf.out Hfl.out)
      have hin5 := back.out w5 HB5.out
      have hin6 := (hin5.setFar ⟨w.heap.size + 2, 0, none⟩ (.slice pa p.syms.length ca) _ _ hr5 (by decide) (fun e => by have := far.out _ e; simp at this; omega))
      have hr56 := heap_setCell_same w5 (w.heap.size + 2) 0 _ _ (.slice pa p.syms.length ca) hr5
      have Hin6 := hid (hin6.setFar ⟨w.heap.size + 2, 1, none⟩ (.slice pb p.terms.length cb) _ _ hr56 (by decide) (fun e => by have := far.out _ e; simp at this; omega))
      have Hb6 := hid (((bel_go HB5.out HB3.out).setCell (p := ⟨w.heap.size + 2, 0, none⟩) (by show w.heap.size ≤ w.heap.size + 2; omega) (.slice pa p.syms.length ca)).setCell (p := ⟨w.heap.size + 2, 1, none⟩) (by show w.heap.size ≤ w.heap.size + 2; omega) (.slice pb p.terms.length cb))
      clear hx5 hy5 hr5 hr6 hin5 hin6 hr56
      go_wp2
      have q := two_cells HR6.out
      obtain ⟨s0, s1, -, -⟩ := q
      refine bodyPost_ret (v := .tuple #[.agg #[.slice pa p.syms.length ca, .slice pb p.terms.length cb], .int .i64 0, .int .i64 11]) (by simp [results, Tryd.results14, go_sem, s0, s1]) rfl ⟨_, ?_, ?_, Apart.of_below Hb6.out, .inl rfl⟩
      · rw [Hrd.out, Hfin.out]
      · rw [Hrd.out, Hfin.out]; exact Hin6.out
    case false =>
    have Hfl := hid (show p.terms.length < 4096 by have := of_decide_eq_false hfull; omega)
    have q := five_cells hy5
    obtain ⟨y0, y1, y2, y3, y4⟩ := q
    go_upto_region 9 with fail
    clear z0 z1 hfull
    go_wp2_with fail
    refine (Hwh.out _ (bel_go HB5.out HB3.out)).mono ?_
    rintro e w6 ⟨v6, rfl, hi6, b6⟩
    obtain ⟨p6, n6, c6, rfl, hi6⟩ := hi6.shape
    obtain ⟨sx, hsx, hown6⟩ := hi6
    have hsx : sx = .slice p6 n6 c6 := by simpa using hsx.symm
    subst hsx
    clear y0 y1 y2 y3 y4
    have HB6 := hid (bel_go b6 HB5.out)
    have hz6 := HB6.out.size
    have hx6 := (HB6.out.block w.heap.size (by omega)).trans HX.out
    have hy6 := (HB6.out.block (w.heap.size + 1) (by omega)).trans HY.out
    have q := five_cells hy6
    obtain ⟨y0, y1, y2, y3, y4⟩ := q
    have f2 := frozen_all hy6 2; have f3 := frozen_all hy6 3
    have hs6 := b6.size
    clear b6 hx5 hy5 hr5
    have hown6 := hown6.mono (base' := B) (by have := HB3.out.size; omega)
    have hlow6 : w.heap.size + 1 < w5.heap.size := by omega
    go_upto_region 10 with fail
    clear y0 y1 y2 y3 y4 f2 f3
    have hy7 := heap_setCell_same _ (w.heap.size + 1) 3 _ _ (.slice p6 n6 c6) (heap_setCell_same w6 (w.heap.size + 1) 2 _ _ (.bool (decide (t.num < 0))) hy6)
    simp only [List.setIfInBounds_toArray, List.set_cons_zero, List.set_cons_succ] at hy7
    have E7 : ∀ k, k ≠ w.heap.size + 1 → ((w6.setCell ⟨w.heap.size + 1, 2, none⟩ (.bool (decide (t.num < 0)))).setCell ⟨w.heap.size + 1, 3, none⟩ (.slice p6 n6 c6)).heap[k]? = w6.heap[k]? := fun k hk => (Below.heap_setCell _ _ _ _ hk).trans (Below.heap_setCell _ _ _ _ hk)
    have hz7 : ((w6.setCell ⟨w.heap.size + 1, 2, none⟩ (.bool (decide (t.num < 0)))).setCell ⟨w.heap.size + 1, 3, none⟩ (.slice p6 n6 c6)).heap.size = w6.heap.size := by simp [World.setCell]
    have bw7 : Below w.heap.size w ((w6.setCell ⟨w.heap.size + 1, 2, none⟩ (.bool (decide (t.num < 0)))).setCell ⟨w.heap.size + 1, 3, none⟩ (.slice p6 n6 c6)) := ((bel_go HB6.out HB3.out).setCell (p := ⟨w.heap.size + 1, 2, none⟩) (Nat.le_succ _) _).setCell (p := ⟨w.heap.size + 1, 3, none⟩) (Nat.le_succ _) _
    generalize hW7 : ((w6.setCell ⟨w.heap.size + 1, 2, none⟩ (.bool (decide (t.num < 0)))).setCell ⟨w.heap.size + 1, 3, none⟩ (.slice p6 n6 c6)) = w7 at *
    have hn7 : Own w7 B 98 .u64 (.slice p6 n6 c6) (dig W t.num.natAbs) := row_stays hown6 fun k hk => E7 k (fun e => tag_ne (row_tag hown6 k hk).choose_spec (e ▸ hy6) (by decide) rfl)
    have hrow7 := row_stays Hrow.out (w' := w7) fun k hk => (E7 k (by have := far.out k hk; omega)).trans (((bel_go HB6.out HB3.out).block k (far.out k hk)))
    have hrr7 := MfRows.stays (w' := w7) (fun k hk => (bel_go HB6.out HB3.out).block k (by obtain ⟨cc', hc⟩ := hk; exact lt_of_block hc) |> fun e => by
      obtain ⟨cc', hc⟩ := hk
      have hlt := lt_of_block hc
      exact (E7 k (by omega)).trans e) Hrr.out
    have hx7 := (E7 w.heap.size (by omega)).trans hx6
    have hr7 := (E7 (w.heap.size + 2) (by omega)).trans ((HB6.out.block (w.heap.size + 2) (by omega)).trans HR.out)
    clear hW7 hy6 hown6 hx6 E7
    have b8 := below1 w7 (.cells #[.int .i64 t.op, .slice pc t.args.length cc, .bool (decide (t.num < 0)), .slice p6 n6 c6, .int .i64 t.sym] 39)
    have hnews := cells_at (c := [.int .i64 t.op, .slice pc t.args.length cc, .bool (decide (t.num < 0)), .slice p6 n6 c6, .int .i64 t.sym]) (heap_alloc_new w7 (.cells #[.int .i64 t.op, .slice pc t.args.length cc, .bool (decide (t.num < 0)), .slice p6 n6 c6, .int .i64 t.sym] 39))
    have hrow8 := ownsRow_later hrow7 b8
    have hz8 := size_alloc w7 (.cells #[.int .i64 t.op, .slice pc t.args.length cc, .bool (decide (t.num < 0)), .slice p6 n6 c6, .int .i64 t.sym] 39)
    have hx8 := (b8.block w.heap.size (by omega)).trans hx7
    have hr8 := (b8.block (w.heap.size + 2) (by omega)).trans hr7
    have hn8 := Own.kept hn7 b8
    have hrr8 := MfRows.stays (w' := w7.alloc (.cells #[.int .i64 t.op, .slice pc t.args.length cc, .bool (decide (t.num < 0)), .slice p6 n6 c6, .int .i64 t.sym] 39)) (fun k hk => b8.block k (by obtain ⟨cc', hc⟩ := hk; exact lt_of_block hc)) hrr7
    have bw8 := bel_go b8 bw7
    have q := two_cells hx7
    obtain ⟨z0, z1, -, -⟩ := q
    have q := five_cells hy7
    obtain ⟨y0, y1, y2, y3, y4⟩ := q
    obtain ⟨i0, hii, hiz0, hiz1, hiz2⟩ := info_parts infoTerm
    have Hn8 := hid hn8; have Hrr8 := hid hrr8; have Hx8 := hid hx8; have Hr8 := hid hr8; have Hbw8 := hid bw8
    have hz7' := Nat.le_of_eq hz7.symm
    replace hz7 := Nat.le_of_eq hz7.symm
    replace hz8 := Nat.le_of_eq hz8.symm
    clear hn7 hrr7 hx7 hr7 b8 hrow7 hx8 hr8 hn8 hrr8 bw8 bw7 hy7
    go_wp2_with (at_builtin; refine wpList_append_own_at _ rfl _ _ 23 rfl B 39 i0 _ 5 72 Tryd.underlying23 hii hiz0 hiz1 hiz2 rfl (by decide) _ p.terms.length _ rfl hrow8 ⟨w7.heap.size, 0, none⟩ 1 1 [.int .i64 t.op, .slice pc t.args.length cc, .bool (decide (t.num < 0)), .slice p6 n6 c6, .int .i64 t.sym] rfl rfl hnews (by intro u hu; simp at hu; rcases hu with rfl | rfl | rfl | rfl | rfl <;> rfl) (by simp [maxLen]; omega) (by omega) (by have := HB3.out.size; omega) ?_; intro v9 w9 ho9 hg9 _ hat9; obtain ⟨p9, c9, rfl⟩ := ownsRow_shape ho9; have fN : (Value.slice pb p.terms.length cb).ownBlock ≠ some w.heap.size := (fun e => by have := far.out _ e; omega); have fR : (Value.slice pb p.terms.length cb).ownBlock ≠ some (w.heap.size + 2) := (fun e => by have := far.out _ e; omega); have hx9 := (hg9.block w.heap.size (by omega) (fun e => fN e.symm)).trans Hx8.out; have q9 := two_cells hx9; obtain ⟨zz0, zz1, zf0, zf1⟩ := q9)
    have hat9 : (Value.slice p9 (p.terms.length + 1) c9).ownBlock = (Value.slice pb p.terms.length cb).ownBlock ∨ (Value.slice p9 (p.terms.length + 1) c9).ownBlock = some (w7.alloc (.cells #[.int .i64 t.op, .slice pc t.args.length cc, .bool (decide (t.num < 0)), .slice p6 n6 c6, .int .i64 t.sym] 39)).heap.size := hat9
    have hx10 := heap_setCell_same w9 w.heap.size 1 _ _ (.slice p9 (p.terms.length + 1) c9) hx9
    simp only [List.setIfInBounds_toArray, List.set_cons_zero, List.set_cons_succ] at hx10
    have hr9 := (hg9.block (w.heap.size + 2) (by omega) (fun e => fR e.symm)).trans Hr8.out
    have hr10 := (Below.heap_setCell w9 ⟨w.heap.size, 1, none⟩ (.slice p9 (p.terms.length + 1) c9) (w.heap.size + 2) (by show w.heap.size + 2 ≠ w.heap.size; omega)).trans hr9
    have h9b : ∀ k, (Value.slice p9 (p.terms.length + 1) c9).ownBlock = some k → k < w.heap.size ∨ w6.heap.size ≤ k := fun k hk => by
      rcases hat9 with h | h
      · exact .inl (far.out k (by rw [← h]; exact hk))
      · rw [h] at hk; cases hk; exact .inr (Nat.le_trans hz7' (by simp))
    have hu9 : ∀ (k : Nat) (c : Array Value), (w7.alloc (.cells #[.int .i64 t.op, .slice pc t.args.length cc, .bool (decide (t.num < 0)), .slice p6 n6 c6, .int .i64 t.sym] 39)).heap[k]? = some (Obj.cells c 98 (0, 0)) → w9.heap[k]? = (w7.alloc (.cells #[.int .i64 t.op, .slice pc t.args.length cc, .bool (decide (t.num < 0)), .slice p6 n6 c6, .int .i64 t.sym] 39)).heap[k]? := fun k c hc => hg9.block k (lt_of_block hc) (fun e => by
      obtain ⟨c', hc'⟩ := row_tag hrow8 k e.symm
      exact tag_ne hc hc' (by decide) rfl)
    have hrr9 := MfRows.stays (w' := w9) (fun k hk => by obtain ⟨c', hc⟩ := hk; exact hu9 k c' hc) Hrr8.out
    have hn9 : Own w9 B 98 .u64 (.slice p6 n6 c6) (dig W t.num.natAbs) := row_stays Hn8.out fun k hk => by obtain ⟨c', hc⟩ := row_tag Hn8.out k hk; exact hu9 k c' hc
    have hin9 : MfIn Q B w9 (.slice p9 (p.terms.length + 1) c9) (p.terms ++ [t]) := ⟨_, by rw [List.length_append]; exact ho9, hrr9.snoc ⟨_, _, rfl, hargs, hn9⟩⟩
    have hin10 := hin9.setFar ⟨w.heap.size, 1, none⟩ (.slice p9 (p.terms.length + 1) c9) _ _ hx9 (by decide) (fun e => by have := h9b _ e; simp at this; omega)
    have ha9 : Apart (fun k => (Value.slice pb p.terms.length cb).ownBlock = some k) w w9 := (Apart.of_below Hbw8.out).grown hg9 (fun k e => e)
    have ha10 := ha9.setNew (q := ⟨w.heap.size, 1, none⟩) (Nat.le_refl _) (.slice p9 (p.terms.length + 1) c9)
    have hat10 : (Value.slice p9 (p.terms.length + 1) c9).ownBlock = (Value.slice pb p.terms.length cb).ownBlock ∨ ∀ k, (Value.slice p9 (p.terms.length + 1) c9).ownBlock = some k → w.heap.size ≤ k := hat9.imp id fun h k hk => by
      rw [h] at hk; cases hk
      have := Hbw8.out.size
      have : w.heap.size ≤ w6.heap.size := by omega
      exact Nat.le_trans (Nat.le_trans this hz7') (by simp)
    generalize hW10 : (w9.setCell ⟨w.heap.size, 1, none⟩ (.slice p9 (p.terms.length + 1) c9)) = w10 at *
    have hin11 := hin10.setFar ⟨w.heap.size + 2, 0, none⟩ (.slice pa p.syms.length ca) _ _ hr10 (by decide) (fun e => by have := h9b _ e; simp at this; omega)
    have hr11 := heap_setCell_same w10 (w.heap.size + 2) 0 _ _ (.slice pa p.syms.length ca) hr10
    have Hin12 := hid (hin11.setFar ⟨w.heap.size + 2, 1, none⟩ (.slice p9 (p.terms.length + 1) c9) _ _ hr11 (by decide) (fun e => by have := h9b _ e; simp at this; omega))
    have HR12 := hid (set2_same hr10 (.slice pa p.syms.length ca) (.slice p9 (p.terms.length + 1) c9))
    have Ha12 := hid ((ha10.setNew (q := ⟨w.heap.size + 2, 0, none⟩) (by show w.heap.size ≤ w.heap.size + 2; omega) (.slice pa p.syms.length ca)).setNew (q := ⟨w.heap.size + 2, 1, none⟩) (by show w.heap.size ≤ w.heap.size + 2; omega) (.slice p9 (p.terms.length + 1) c9))
    have Hat := hid hat10
    have q := two_cells hx10
    obtain ⟨z0, z1, -, -⟩ := q
    have q := two_cells hr10
    obtain ⟨r0, r1, g0, g1⟩ := q
    clear hW10 hx10 hr9 hr10 h9b hu9 hrr9 hn9 hin9 hin10 ha9 ha10 hat10 hin11 hr11 hx9 zz0 zz1 zf0 zf1 hg9 hat9 ho9 Hx8 Hr8 Hrr8 Hn8 hnews hrow8
    have Hfin := hid (plMake_new Hez.out Hf.out (by have := Hfl.out; omega))
    go_region
    clear z0 z1 r0 r1 g0 g1
    go_wp2
    have q := two_cells HR12.out
    obtain ⟨s0, s1, -, -⟩ := q
    refine bodyPost_ret (v := .tuple #[.agg #[.slice pa p.syms.length ca, .slice p9 (p.terms.length + 1) c9], .int .i64 (p.terms.length : Nat), .int .i64 0]) (by simp [results, Tryd.results14, go_sem, s0, s1]) rfl ⟨_, ?_, ?_, Ha12.out.drew, Hat.out⟩
    · rw [Hrd.out, Hfin.out]
    · rw [Hrd.out, Hfin.out]; exact Hin12.out.stays (fun _ _ _ _ _ _ => rfl) (fun _ _ _ => rfl)
end Go.Proofs.YthheafjilbeddaaDoor
/- whole.trimHalves: what is left is the digits without the noughts at the end. -/
namespace Go.Proofs.YthheafjilbeddaaDoor
open Go.RowKit Big

end Go.Proofs.YthheafjilbeddaaDoor
/- whole.split: words as halves of words. -/
namespace Go.Proofs.YthheafjilbeddaaDoor
open Go.RowKit Big

theorem At.twoI (w : World) (k : IntKind) (e e' : Int) (x y : Nat) (t : TypeId) (h : e = (x : Int)) (h' : e' = (y : Int)) : At (w.alloc (.cells #[.int k e, .int k e'] t)) k (.slice (some ⟨w.heap.size, 0, none⟩) 2 2) [x, y] := by
  subst h; subst h'
  refine ⟨_, 2, rfl, by simp, by simp [maxLen], fun h => (by cases h), fun _ => ⟨_, _, rfl, by simp, fun i hi => ?_⟩⟩
  have hh := heap_alloc_new w (.cells #[.int k (x : Nat), .int k (y : Nat)] t)
  rcases (by simp at hi; omega : i = 0 ∨ i = 1) with rfl | rfl
  · exact (two_cells hh).1
  · exact (two_cells hh).2.1

theorem split_step {L l : List Nat} {k x : Nat} {hk : k < l.length} (hL : L.length = 2 * k) (hx : x = l[k]) (hv : val H L = val W (l.take k)) :
    val H (L ++ [x % 4294967296, x / 4294967296]) = val W (l.take (k + 1)) := by
  rw [val_append, val_take_succ W l k hk, hv, hL, ← hx, show H ^ (2 * k) = W ^ k by rw [Nat.pow_mul]; rfl]
  have e : val H [x % 4294967296, x / 4294967296] = x := by simp only [val, H]; omega
  rw [e]

end Go.Proofs.YthheafjilbeddaaDoor
/- whole.divideShort: a quotient by one half, in place. -/
namespace Go.Proofs.YthheafjilbeddaaDoor
open Go.RowKit Big

theorem Own.shape {w : World} {base : Nat} {e : TypeId} {k : IntKind} {v : Value} {l : List Nat} (h : Own w base e k v l) (hl : 0 < l.length) :
    ∃ g cap, v = .slice (some ⟨g, 0, none⟩) l.length cap ∧ base ≤ g ∧ g < w.heap.size ∧ l.length ≤ cap ∧ cap ≤ maxLen := by
  rcases h.2 with ⟨_, h0⟩ | ⟨g, cap, cur, hv, h1, h2, h3, h4, _⟩
  · omega
  · exact ⟨g, cap, hv, h1, (Array.getElem?_eq_some_iff.1 h2).1, h3, h4⟩
theorem Own.cell {w : World} {base : Nat} {e : TypeId} {k : IntKind} {g n cap : Nat} {l : List Nat} (h : Own w base e k (.slice (some ⟨g, 0, none⟩) n cap) l) (j : Nat) (hj : j < l.length) :
    w.cell? ⟨g, j, none⟩ = some (.int k (l[j] : Nat)) ∧ w.frozen? ⟨g, j, none⟩ = false := by
  have hn : n = l.length := by
    rcases h.2 with ⟨h1, _⟩ | ⟨g, cap, cur, hv, _⟩
    · cases h1
    · cases hv; rfl
  subst hn
  refine ⟨?_, World.ownsRow.frozenAt h j⟩
  rw [World.ownsRow.cellAt h j (by omega)]
  simp [ints, hj]
/-- a store into an owned row -/
theorem Own.set {w : World} {base : Nat} {e : TypeId} {k : IntKind} {g n cap : Nat} {l : List Nat} (h : Own w base e k (.slice (some ⟨g, 0, none⟩) n cap) l) (j x : Nat) :
    Own (w.setCell ⟨g, j, none⟩ (.int k (x : Nat))) base e k (.slice (some ⟨g, 0, none⟩) n cap) (l.set j x) ∧ w.grownBy (w.setCell ⟨g, j, none⟩ (.int k (x : Nat))) (some g) := by
  have hn : n = l.length := by
    rcases h.2 with ⟨h1, _⟩ | ⟨g, cap, cur, hv, _⟩
    · cases h1
    · cases hv; rfl
  subst hn
  have hs := World.ownsRow.stored h j (.int k (x : Nat))
  refine ⟨?_, hs.2⟩
  unfold Own
  rw [List.length_set]
  have e1 : ints k (l.set j x) = (ints k l).set j (.int k (x : Nat)) := by simp [ints, List.map_set]
  rw [e1]; exact hs.1

theorem grown_trans {a b c : World} {row : Option Nat} (h : a.grownBy b row) (k : b.grownBy c row) : a.grownBy c row :=
  ⟨k.os.trans h.os, k.tape.trans h.tape, k.output.trans h.output, Nat.le_trans h.size k.size, fun i hi hne => (k.block i (Nat.lt_of_lt_of_le hi h.size) hne).trans (h.block i hi hne)⟩

theorem or_half (a b : Nat) (ha : a < 4294967296) (hb : b < 4294967296) : bits BinOp.or IntKind.u64 ((a : Int) * 4294967296) (b : Int) = ((a * 4294967296 + b : Nat) : Int) := by
  have h := u64_or_nat (a * 4294967296) b (by omega) (by omega)
  rw [Int.natCast_mul] at h
  rw [show ((a : Int) * 4294967296) = (a : Int) * ((4294967296 : Nat) : Int) by rfl, h]
  have e := Nat.two_pow_add_eq_or_of_lt (i := 32) (b := b) (by simpa using hb) a
  rw [show (2 : Nat) ^ 32 = 4294967296 by rfl, Nat.mul_comm] at e
  rw [← e]
theorem wrap_nat (n : Nat) (h : n < W) : IntKind.u64.wrap (n : Int) = (n : Int) := by
  unfold W at h
  simp only [IntKind.wrap, IntKind.bits, IntKind.signed]
  simp
  omega
theorem set_take {l Q : List Nat} {k : Nat} (hk : k < l.length) (x : Nat) : (l.take (k + 1) ++ Q).set k x = l.take k ++ x :: Q := by
  rw [take_succ' l k hk, List.append_assoc, List.set_append_right _ _ (by simp; omega)]
  have : k - (l.take k).length = 0 := by simp; omega
  rw [this]; rfl
theorem divShort_step {l Q : List Nat} {k x rest d P : Nat} {hk : k < l.length} (hx : x = l[k]) (hP : P = rest * 4294967296 + x)
    (hv : val H l = val H (l.take (k + 1)) + H ^ (k + 1) * (d * val H Q + rest)) : val H l = val H (l.take k) + H ^ k * (d * val H (P / d :: Q) + P % d) := by
  rw [hv, val_take_succ H l k hk, ← hx, Nat.pow_succ, val_cons]
  have e : P = d * (P / d) + P % d := (Nat.div_add_mod P d).symm
  have e2 : d * (P / d) + P % d = rest * H + x := by rw [← e, hP]; rfl
  generalize P / d = q at *
  generalize P % d = r at *
  have : H ^ k * (d * (q + H * val H Q) + r) = H ^ k * (rest * H + x) + H ^ k * (d * (H * val H Q)) := by rw [← e2]; grind
  rw [this]; grind
theorem div_lt_half {P d rest x : Nat} (hP : P = rest * 4294967296 + x) (hr : rest < d) (hx : x < 4294967296) : P / d < 4294967296 := by
  rw [Nat.div_lt_iff_lt_mul (by omega)]
  have : (rest + 1) * 4294967296 ≤ d * 4294967296 := Nat.mul_le_mul_right _ hr
  rw [Nat.mul_comm 4294967296 d]
  omega

end Go.Proofs.YthheafjilbeddaaDoor
/- whole.join: halves of words as words. -/
namespace Go.Proofs.YthheafjilbeddaaDoor
open Go.RowKit Big

theorem half_or (a b : Nat) (ha : a < 4294967296) (hb : b < 4294967296) : bits BinOp.or IntKind.u64 (b : Int) ((a : Int) * 4294967296) = ((a * 4294967296 + b : Nat) : Int) := by
  have h := u64_or_nat b (a * 4294967296) (by omega) (by omega)
  rw [Int.natCast_mul] at h
  rw [show ((a : Int) * 4294967296) = (a : Int) * ((4294967296 : Nat) : Int) by rfl, h]
  have e := Nat.two_pow_add_eq_or_of_lt (i := 32) (b := b) (by simpa using hb) a
  rw [show (2 : Nat) ^ 32 = 4294967296 by rfl, Nat.mul_comm] at e
  rw [e, Nat.or_comm]

theorem join_step {L l : List Nat} {j x y : Nat} (hL : L.length = j) (hx : x = l[2 * j]?.getD 0) (hy : y = l[2 * j + 1]?.getD 0) (hv : val W L = val H (l.take (2 * j))) :
    val W (L ++ [y * 4294967296 + x]) = val H (l.take (2 * j + 2)) := by
  rw [show 2 * j + 2 = 2 * j + 1 + 1 by rfl, val_take_getD, val_take_getD, val_snoc, hv, hL, ← hx, ← hy, Nat.pow_succ, show H ^ (2 * j) = W ^ j by rw [Nat.pow_mul]; rfl]
  have : W ^ j * (y * 4294967296 + x) = W ^ j * x + W ^ j * H * y := by unfold H; grind
  rw [this]; omega

end Go.Proofs.YthheafjilbeddaaDoor
/- whole.timesPlus: halves so many times as great, and more, in place. -/
namespace Go.Proofs.YthheafjilbeddaaDoor
open Go.RowKit Big

theorem set_drop {l Q : List Nat} {k : Nat} (hQ : Q.length = k) (hk : k < l.length) (x : Nat) : (Q ++ l.drop k).set k x = (Q ++ [x]) ++ l.drop (k + 1) := by
  rw [List.set_append_right _ _ (by omega), hQ, Nat.sub_self, List.drop_eq_getElem_cons hk]
  simp only [List.set_cons_zero, List.append_assoc, List.singleton_append]
theorem timesPlus_step {l Q : List Nat} {k x f m c P : Nat} {hk : k < l.length} (hQ : Q.length = k) (hx : x = l[k]) (hP : P = x * f + c) (hv : val H Q + c * H ^ k = f * val H (l.take k) + m) :
    val H (Q ++ [P % 4294967296]) + P / 4294967296 * H ^ (k + 1) = f * val H (l.take (k + 1)) + m := by
  rw [val_snoc, val_take_succ H l k hk, hQ, ← hx, Nat.pow_succ]
  have e : P = P % 4294967296 + H * (P / 4294967296) := by unfold H; omega
  have e2 : P % 4294967296 + H * (P / 4294967296) = x * f + c := by rw [← e, hP]
  generalize P % 4294967296 = r at *
  generalize P / 4294967296 = q at *
  have : H ^ k * (r + H * q) = H ^ k * (x * f + c) := by rw [e2]
  grind
theorem prod_lt {x f c : Nat} (hx : x < 4294967296) (hf : f < 4294967296) (hc : c < 4294967296) : x * f ≤ 18446744065119617025 ∧ x * f + c < 18446744073709551616 ∧ (x * f + c) / 4294967296 < 4294967296 := by
  have h : x * f ≤ 4294967295 * 4294967295 := Nat.mul_le_mul (by omega) (by omega)
  omega

end Go.Proofs.YthheafjilbeddaaDoor
/- whole.timesHalves: products of halves of words. -/
namespace Go.Proofs.YthheafjilbeddaaDoor
open Go.RowKit Big

theorem val_set (B : Nat) : ∀ (l : List Nat) (k x : Nat) (h : k < l.length), val B (l.set k x) + B ^ k * l[k] = val B l + B ^ k * x
  | [], k, x, h => absurd h (by simp)
  | y :: l, 0, x, _ => by simp [val]; omega
  | y :: l, k + 1, x, h => by
    have ih := val_set B l k x (by simpa using h)
    simp only [List.set_cons_succ, val, List.getElem_cons_succ, Nat.pow_succ]
    have : B * (val B (l.set k x) + B ^ k * l[k]'(by simpa using h)) = B * (val B l + B ^ k * x) := by rw [ih]
    grind
theorem small_set {B : Nat} {l : List Nat} (h : Small B l) (k : Nat) {x : Nat} (hx : x < B) : Small B (l.set k x) := by
  intro y hy
  rcases List.mem_or_eq_of_mem_set hy with h1 | h1
  · exact h y h1
  · rw [h1]; exact hx
/-- one step of a row: the product's digit, what lies there, and the carry -/
theorem times_step {O : List Nat} {k x y c P Va Vb HI HJ : Nat} (hk : k < O.length) (hP : P = x * y + O[k] + c) (hHk : H ^ k = HI * HJ)
    (hv : val H O + c * H ^ k = Va + HI * (x * Vb)) : val H (O.set k (P % 4294967296)) + P / 4294967296 * H ^ (k + 1) = Va + HI * (x * (Vb + HJ * y)) := by
  have h1 := val_set H O k (P % 4294967296) hk
  have e2 : P % 4294967296 + H * (P / 4294967296) = x * y + O[k] + c := by rw [← hP]; unfold H; omega
  rw [Nat.pow_succ]
  generalize val H (O.set k (P % 4294967296)) = V' at *
  generalize O[k] = o at *
  generalize P % 4294967296 = r at *
  generalize P / 4294967296 = q at *
  have e3 : H ^ k * (r + H * q) = H ^ k * (x * y + o + c) := by rw [e2]
  have e4 : V' + H ^ k * o + q * (H ^ k * H) = Va + HI * (x * Vb) + H ^ k * (x * y) + H ^ k * o := by grind
  rw [hHk] at e4 ⊢
  grind
theorem mulsum_lt {x y o c : Nat} (hx : x < 4294967296) (hy : y < 4294967296) (ho : o < 4294967296) (hc : c < 4294967296) :
    x * y ≤ 18446744065119617025 ∧ x * y + o + c < 18446744073709551616 ∧ (x * y + o + c) / 4294967296 < 4294967296 := by
  have h : x * y ≤ 4294967295 * 4294967295 := Nat.mul_le_mul (by omega) (by omega)
  omega
end Go.Proofs.YthheafjilbeddaaDoor
/- whole.timesHalves: the walk. -/
namespace Go.Proofs.YthheafjilbeddaaDoor
open Go.RowKit Big

theorem val_zeros (B n : Nat) : val B (List.replicate n 0) = 0 := by
  induction n with
  | zero => rfl
  | succ n ih => rw [List.replicate_succ, val_cons, ih]; simp
theorem small_zeros {B : Nat} (hB : 0 < B) (n : Nat) : Small B (List.replicate n 0) := fun x hx => by rw [List.eq_of_mem_replicate hx]; exact hB

end Go.Proofs.YthheafjilbeddaaDoor
/- elenchusref01.times: products of digits. -/
namespace Go.Proofs.YthheafjilbeddaaDoor
open Go.RowKit Big

theorem rtimes_step {O : List Nat} {k x y c P Va Vb DI DJ : Nat} (hk : k < O.length) (hP : P = c + O[k] + x * y) (hDk : D ^ k = DI * DJ)
    (hv : val D O + c * D ^ k = Va + DI * (x * Vb)) : val D (O.set k (P % 65536)) + P / 65536 * D ^ (k + 1) = Va + DI * (x * (Vb + DJ * y)) := by
  have h1 := val_set D O k (P % 65536) hk
  have e2 : P % 65536 + D * (P / 65536) = c + O[k] + x * y := by rw [← hP]; unfold D; omega
  rw [Nat.pow_succ]
  generalize val D (O.set k (P % 65536)) = V' at *
  generalize O[k] = o at *
  generalize P % 65536 = r at *
  generalize P / 65536 = q at *
  have e3 : D ^ k * (r + D * q) = D ^ k * (c + o + x * y) := by rw [e2]
  rw [hDk] at e3 h1 hv ⊢
  have g1 : q * (DI * DJ * D) = DI * DJ * (D * q) := by rw [Nat.mul_left_comm, Nat.mul_comm q D]
  have g2 : DI * (x * (Vb + DJ * y)) = DI * (x * Vb) + DI * DJ * (x * y) := by rw [Nat.mul_add, Nat.mul_add, Nat.mul_assoc DI DJ, Nat.mul_left_comm x DJ y]
  have g3 : c * (DI * DJ) = DI * DJ * c := Nat.mul_comm ..
  simp only [Nat.mul_add] at e3
  rw [g1, g2]
  rw [g3] at hv
  omega
theorem dsum_lt {x y o c : Nat} (hx : x < 65536) (hy : y < 65536) (ho : o < 65536) (hc : c < 65536) : x * y ≤ 4294836225 ∧ c + o + x * y ≤ 4294967295 ∧ (c + o + x * y) / 65536 < 65536 := by
  have h : x * y ≤ 65535 * 65535 := Nat.mul_le_mul (by omega) (by omega)
  omega

set_option maxRecDepth 100000 in
set_option maxHeartbeats 3200000 in
theorem rtimes_any (v0 v1 : Value) (l0 l1 : List Nat) (w : World) (h0 : At w .i64 v0 l0) (h1 : At w .i64 v1 l1) (s0 : Small D l0) (s1 : Small D l1)
    (hl0 : l0.length ≤ 4398046511104) (hl1 : l1.length ≤ 4398046511104) : Calls Tryd.prog 91 #[v0, v1] w (RAt .i64 (dig D (val D l0 * val D l1)) w) := by
  have g1 : ∀ (k : Nat) W, Below w.heap.size w W → Calls Tryd.prog 98 #[v1, .int .i64 (k : Nat)] W fun e w' => e = .returned (.int .i64 (l1[k]?.getD 0 : Nat)) ∧ w' = W := fun k W hb => at_any v1 l1 k W (h1.below hb)
  have G1 := hid g1
  clear g1
  obtain ⟨p0, c0, rfl, a1, a2, a3, a4⟩ := h0
  obtain ⟨p1, c1, rfl, b1, b2, b3, -⟩ := h1
  unfold maxLen at a2 b2
  go_enter Tryd.func91, Tryd.ntmps91
  go_wp2_with (first
    | (at_make; refine wpList_full_at rfl _ _ 33 rfl elemInts w.heap.size _ _ _ _ (l0.length + l1.length + 1) rfl rfl (by first | rfl | omega | (simp; done)) (by first | rfl | omega | (simp; done)) (by omega) (by simp [maxLen]; omega) (Nat.le_refl _) ?_; intro vo w1 ho hb1 hs1 hvo; subst hvo))
  go_loopw [18] (fun i wr => ∃ (k : Nat) (O : List Nat), k ≤ l0.length ∧ i = .int .i64 (k : Nat) ∧ Own wr w.heap.size 3 .i64 (.slice (some ⟨w.heap.size, 0, none⟩) (l0.length + l1.length + 1) (l0.length + l1.length + 1)) O ∧ Hid (O.length = l0.length + l1.length + 1) ∧ Small D O ∧
      Hid (∀ j, k + l1.length ≤ j → O[j]?.getD 0 = 0) ∧ Hid (val D O = val D (l0.take k) * val D l1) ∧ Below w.heap.size w wr ∧ w.heap.size ≤ wr.heap.size) (fun i _ => l0.length - (intOf i).toNat)
  case atStart => exact ⟨0, List.replicate (l0.length + l1.length + 1) 0, Nat.zero_le _, rfl, ho, by simp [Hid], small_zeros (by decide) _, by unfold Hid; intro j _; simp [List.getElem?_replicate]; split <;> rfl, by unfold Hid; simp [val_zeros, val], hb1, hs1⟩
  case round =>
    obtain ⟨k, O, hk, rfl, hown, hO, hsO, hz, hv, hbel, hsz⟩ := hrel
    by_cases hkl : k < l0.length
    · obtain ⟨b, off, rfl, hbb, hcell⟩ := a4 (by omega)
      have x0 := small_get s0 k hkl
      obtain ⟨x, hx⟩ : ∃ x, x = l0[k] := ⟨_, rfl⟩
      have hcx := hcell k hkl
      rw [← hx] at x0 hcx
      have Hx := hid hx; have Hcx := hid hcx; clear hx hcell a4 hcx
      unfold D at x0
      go_wp2_with fail
      go_loopw [7, 8] (fun c j wq => ∃ (i c' : Nat) (Q : List Nat), (i ≤ l1.length ∨ (i = l1.length + 1 ∧ c' = 0)) ∧ j = .int .i64 (i : Nat) ∧ c = .int .i64 (c' : Nat) ∧ c' < 65536 ∧ Own wq w.heap.size 3 .i64 (.slice (some ⟨w.heap.size, 0, none⟩) (l0.length + l1.length + 1) (l0.length + l1.length + 1)) Q ∧ Hid (Q.length = l0.length + l1.length + 1) ∧ Small D Q ∧
        Hid (∀ j, k + 1 + l1.length ≤ j → Q[j]?.getD 0 = 0) ∧ Hid (i ≤ l1.length → Q[k + l1.length]?.getD 0 = 0) ∧ Hid (val D Q + c' * D ^ (k + i) = val D (l0.take k) * val D l1 + D ^ k * (x * val D (l1.take i))) ∧ Below w.heap.size w wq ∧ w.heap.size ≤ wq.heap.size) (fun _ j _ => l1.length + 2 - (intOf j).toNat)
      case atStart => exact ⟨0, 0, O, Or.inl (Nat.zero_le _), rfl, rfl, by omega, hown, hO, hsO, by intro j hj; exact hz.out j (by omega), by intro _; exact hz.out _ (Nat.le_refl _), by have := hv.out; unfold Hid; simp [val, this], hbel, hsz⟩
      case round =>
        obtain ⟨i, c', Q, hi, rfl, rfl, hc', hown', hQ, hsQ, hzQ, hzK, hvQ, hbel', hsz'⟩ := hrel
        by_cases hgo : i < l1.length ∨ 0 < c'
        · have hil : i ≤ l1.length := by omega
          have e0 : wr.cell? ⟨b, off + k, none⟩ = some (.int .i64 (x : Nat)) := (hbel'.cell (p := ⟨b, off + k, none⟩) hbb).trans Hcx.out
          obtain ⟨y, hy⟩ : ∃ y, y = l1[i]?.getD 0 := ⟨_, rfl⟩
          have y0 : y < 65536 := by rw [hy]; exact small_getD s1 (by decide) i
          have t1 := fun n => G1.out i (wr.drewN n) (below_drewN hbel' n)
          rw [← hy] at t1
          have T1 := hid t1; have Hy := hid hy; clear t1 hy
          have hkq : k + i < Q.length := by rw [hQ.out]; omega
          obtain ⟨cc0, f0⟩ := hown'.cell (k + i) hkq
          have o0 := small_get hsQ (k + i) hkq
          obtain ⟨o, ho'⟩ : ∃ o, o = Q[k + i] := ⟨_, rfl⟩
          rw [← ho'] at cc0 o0
          have Ho := hid ho'; clear ho'
          unfold D at o0
          obtain ⟨m1, m2, m3⟩ := dsum_lt x0 y0 o0 hc'
          obtain ⟨P, hP⟩ : ∃ P, P = c' + o + x * y := ⟨_, rfl⟩
          rw [← hP] at m2 m3
          have q1 : (x : Int) * (y : Int) ≤ 4294836225 := by
            have : ((x * y : Nat) : Int) ≤ 4294836225 := by omega
            rwa [Int.natCast_mul] at this
          have q2 : 0 ≤ (x : Int) * (y : Int) := by rw [← Int.natCast_mul]; omega
          have q3 : (c' : Int) + (o : Int) + (x : Int) * (y : Int) = (P : Int) := by rw [hP]; simp
          have HP := hid hP; have Q3 := hid q3
          clear hP q3
          have hset := hown'.set (k + i) (P % 65536)
          have hv' : val D (Q.set (k + i) (P % 65536)) + P / 65536 * D ^ (k + (i + 1)) = val D (l0.take k) * val D l1 + D ^ k * (x * val D (l1.take (i + 1))) := by
            have := rtimes_step (DI := D ^ k) (DJ := D ^ i) (x := x) (y := y) hkq (show P = c' + Q[k + i] + x * y by rw [← Ho.out]; exact HP.out) (Nat.pow_add ..) hvQ.out
            rw [val_take_getD D l1 i, ← Hy.out]
            exact this
          have hz' : ∀ j, k + 1 + l1.length ≤ j → (Q.set (k + i) (P % 65536))[j]?.getD 0 = 0 := fun j hj => by
            rw [List.getElem?_set_ne (by omega)]; exact hzQ.out j hj
          have hzk' : i + 1 ≤ l1.length → (Q.set (k + i) (P % 65536))[k + l1.length]?.getD 0 = 0 := fun h => by
            rw [List.getElem?_set_ne (by omega)]; exact hzK.out (by omega)
          have hn : i + 1 ≤ l1.length ∨ (i + 1 = l1.length + 1 ∧ P / 65536 = 0) := by
            by_cases h : i < l1.length
            · exact Or.inl (by omega)
            · right
              have e : i = l1.length := by omega
              refine ⟨by omega, ?_⟩
              have y00 : y = 0 := by rw [Hy.out, List.getElem?_eq_none (by omega)]; rfl
              have o00 : o = 0 := by
                have := hzK.out hil
                rw [Ho.out]
                rw [← e] at this
                simpa [hkq] using this
              rw [HP.out, y00, o00]; omega
          have Hv' := hid hv'; have Hz' := hid hz'; have Hzk' := hid hzk'; have Hn := hid hn
          clear hv' hz' hzk' hn hi
          rcases (by omega : i < l1.length ∨ (¬ i < l1.length ∧ 0 < c')) with h | ⟨h, h'⟩
          all_goals
            go_wp2_with fail
            go_quiet ((go_at_call 98; exact Calls.quiet_of_same (T1.out _)))
            go_wp2_with fail
            have r1 : ((c' : Int) + (o : Int) + (x : Int) * (y : Int)) / 65536 = ((P / 65536 : Nat) : Int) := by rw [Q3.out]; omega
            have r2 : ((c' : Int) + (o : Int) + (x : Int) * (y : Int)) % 65536 = ((P % 65536 : Nat) : Int) := by rw [Q3.out]; omega
            rw [r1, r2]
            have hset := (hown'.kept (below_drewN (Below.refl _ _) nq)).set (k + i) (P % 65536)
            go_roundw
            case rel => exact ⟨i + 1, P / 65536, Q.set (k + i) (P % 65536), Hn.out, by go_num, rfl, m3, hset.1, by unfold Hid; rw [List.length_set]; exact hQ.out, small_set hsQ _ (Nat.mod_lt _ (by decide)), Hz'.out, Hzk'.out, Hv'.out,
              (below_drewN hbel' nq).setCell (p := ⟨w.heap.size, k + i, none⟩) (Nat.le_refl _) _, by simpa [World.setCell] using hsz'⟩
            case measure => (simp [intOf] <;> omega)
        · have hc0 : c' = 0 := by omega
          subst hc0
          have h : ¬ i < l1.length := by omega
          have hv' : Hid (val D Q = val D (l0.take (k + 1)) * val D l1) := by
            have := hvQ.out
            rw [Nat.zero_mul, Nat.add_zero, val_take_ge D l1 i (by omega)] at this
            unfold Hid
            rw [this, val_take_succ D l0 k hkl, ← Hx.out, Nat.add_mul, Nat.mul_assoc]
          clear hgo hi hvQ
          go_wp2_with fail
          go_roundw
          case rel => exact ⟨k + 1, Q, by omega, by go_num, hown', hQ, hsQ, hzQ.out, hv'.out, hbel', hsz'⟩
          case measure => (simp [intOf] <;> omega)
    · obtain rfl : k = l0.length := by omega
      have hv' : Hid (strip O = dig D (val D l0 * val D l1)) := by
        have := hv.out
        rw [List.take_length] at this
        unfold Hid
        rw [← this, strip_dig D2 hsO]
      clear a4
      go_wp2_with (go_at_call 75; refine (rtrim_any _ O _ hown.at).mono ?_; rintro e w' ⟨v', rfl, hv'', rfl⟩)
      go_ret
      exact ⟨_, rfl, by rw [← hv'.out]; exact hv'', hbel⟩
end Go.Proofs.YthheafjilbeddaaDoor
/- whole.divide of numbers of one word. -/
namespace Go.Proofs.YthheafjilbeddaaDoor
open Go.RowKit Big

def RTwoNat (q r : Nat) (w : World) (e : Ending) (w' : World) : Prop := ∃ v v', e = .returned (.tuple #[v, v']) ∧ At w' .u64 v (dig W q) ∧ At w' .u64 v' (dig W r) ∧ Below w.heap.size w w'

theorem head_dig {n : Nat} (h : n < W) : (dig W n).headD 0 = n := by
  by_cases h0 : n = 0
  · subst h0; rfl
  · rw [dig_one W2 (by omega) h]; rfl

end Go.Proofs.YthheafjilbeddaaDoor
/- elenchusref01.Same, SameInt. -/
namespace Go.Proofs.YthheafjilbeddaaDoor
open Go.RowKit Big

def RDrawn (v : Value) (w : World) (e : Ending) (w' : World) : Prop := e = .returned v ∧ ∃ k, w' = w.drewN k


end Go.Proofs.YthheafjilbeddaaDoor
/- elenchuslaw01.few of two numbers, copied. -/
namespace Go.Proofs.YthheafjilbeddaaDoor
open Go.RowKit Big

end Go.Proofs.YthheafjilbeddaaDoor
/- elenchuslaw01.copied: the same number in new memory. -/
namespace Go.Proofs.YthheafjilbeddaaDoor
open Go.RowKit Big

theorem Pair.far {w w' : World} {g B : Nat} {t : TypeId} (h : Pair w g t) (hg : g < B) (hb : Below B w w') : Pair w' g t := by
  obtain ⟨x, p, n, c, h⟩ := h
  exact ⟨x, p, n, c, (hb.block g hg).trans h⟩
/-- 'append(v, x...)' inside a region that draws its order -/
theorem step_append_at {P : Program} {w : World} {ops : Array Oper} {o : Oper} {a : Act} {K : Act → World → Prop} {Q : Exit → Act → World → Prop} {E' : Prop} (hgd : o.guard = none) (s x : Operand) (t : TypeId)
    (ho : o.op = .call { callee := .builtin .append, args := #[s, x], argTypes := #[t, t] })
    {e : TypeId} {k : IntKind} {size : Nat} (E : Elem P t e k size) (base : Nat) (v : Value) (l : List Nat) (hs : a.eval s = v) (hown : Own w base e k v l)
    (vx : Value) (m : List Nat) (hx : a.eval x = vx) (hat : At w k vx m)
    (hlen : l.length + m.length ≤ maxLen) (hbytes : (l.length + m.length) * size ≤ 140737488355328) (hbase : base ≤ w.heap.size)
    (h : ∀ v' w', Own w' base e k v' (l ++ m) → Below base w w' → w.heap.size ≤ w'.heap.size → K (a.put o.dst v') w') :
    if Region.wanted o (yielded ops a.tmps) = true then Oper.wp P o a w K Q else E' := by
  have hw : Region.wanted o (yielded ops a.tmps) = true := by simp [Region.wanted, hgd]
  rw [if_pos hw]
  obtain ⟨i, hi, hz, hsz, hby⟩ := E.row
  obtain ⟨p, cap, rfl, h1, h2, h3, h4⟩ := hat
  cases p with
  | none =>
    obtain rfl := h3 rfl
    obtain rfl : m = [] := List.eq_nil_of_length_eq_zero (by omega)
    have hrun := run_append_owned_none (P := P) (w := w) base t o.type e i 1 E.und hi v l.length (ints k l) hown
    unfold Oper.wp
    simp [execOp, ho, resolve, invoke, builtin, hs, hx, hrun, Result.andThen]
    exact h _ _ (by rw [List.append_nil]; exact hown) (Below.refl _ _) (Nat.le_refl _)
  | some ad =>
    refine wp_append_own w s x t ho base e i (.int k 0) 1 size E.und hi hz hsz hby rfl (by decide) v l.length (ints k l) hs hown ad m.length cap (ints k m) hx (by simp [ints_length]) ?_ ?_ hlen hbytes hbase ?_
    · intro j u hj
      by_cases hjm : j < m.length
      · obtain ⟨b, off, he, hb, hc⟩ := h4 (by omega)
        cases he
        rw [Go.WideShapes.add_plain, hc j hjm]
        simpa [ints, hjm] using hj
      · rw [List.getElem?_eq_none (by rw [ints_length]; omega)] at hj; cases hj
    · intro u hu
      obtain ⟨n, _, rfl⟩ := List.mem_map.1 hu
      rfl
    · intro v' w' h5 h6 _
      refine h v' w' ?_ ((Below.refl _ _).grown h6 hbase hown.row) h6.size
      unfold Own
      rw [List.length_append, ints_append]; exact h5

def RCopied (neg : Bool) (l : List Nat) (w : World) (e : Ending) (w' : World) : Prop := ∃ p c, e = .returned (.agg #[.bool neg, .slice p l.length c]) ∧ At w' .u64 (.slice p l.length c) l ∧ Below w.heap.size w w'

end Go.Proofs.YthheafjilbeddaaDoor
/- 'x, y := copied(a), copied(b)': what holds of the frame and the world, whatever has come up of the statement. -/
namespace Go.Proofs.YthheafjilbeddaaDoor
open Go.RowKit Big

theorem Two.drew {w : World} {g : Nat} {a b c d : Value} (h : Two w g a b c d) : Two w.drew g a b c d := ⟨h.c00, h.c01, h.c10, h.c11, h.lt⟩
theorem Two.set {w : World} {g : Nat} {a b c d : Value} (h : Two w g a b c d) (x j : Nat) (u : Value) (hx : g + 1 < x) : Two (w.setCell ⟨x, j, none⟩ u) g a b c d :=
  ⟨(World.cell?_of_block (w := w) (Below.heap_setCell w _ u g (by show g ≠ x; omega))).trans h.c00, (World.cell?_of_block (w := w) (Below.heap_setCell w _ u g (by show g ≠ x; omega))).trans h.c01,
   (World.cell?_of_block (w := w) (Below.heap_setCell w _ u (g + 1) (by show g + 1 ≠ x; omega))).trans h.c10, (World.cell?_of_block (w := w) (Below.heap_setCell w _ u (g + 1) (by show g + 1 ≠ x; omega))).trans h.c11, by simpa [World.setCell] using h.lt⟩
theorem four_cells {w : World} {g : Nat} {a b c d : Value} {t : TypeId} (h : w.heap[g]? = some (.cells #[a, b, c, d] t (0, 0))) :
    w.cell? ⟨g, 0, none⟩ = some a ∧ w.cell? ⟨g, 1, none⟩ = some b ∧ w.cell? ⟨g, 2, none⟩ = some c ∧ w.cell? ⟨g, 3, none⟩ = some d :=
  ⟨by rw [cell_of_row w g 0 _ t (0, 0) h]; rfl, by rw [cell_of_row w g 1 _ t (0, 0) h]; rfl, by rw [cell_of_row w g 2 _ t (0, 0) h]; rfl, by rw [cell_of_row w g 3 _ t (0, 0) h]; rfl⟩

theorem Below.go {u w w' : World} (hb : Below w.heap.size w w') (h : Below u.heap.size u w) : Below u.heap.size u w' := h.trans (hb.mono h.size)
/-- a value is a number's copy -/
def Cop (w : World) (n : Bool) (l : List Nat) (v : Value) : Prop := ∃ q k, v = .agg #[.bool n, .slice q l.length k] ∧ At w .u64 (.slice q l.length k) l
theorem Cop.below {w w' : World} {n : Bool} {l : List Nat} {v : Value} (h : Cop w n l v) (hb : Below w.heap.size w w') : Cop w' n l v := by
  obtain ⟨q, k, rfl, ha⟩ := h
  exact ⟨q, k, rfl, ha.below hb⟩
/-- a pointer to a variable of a number, from block B on -/
def VarAt (w : World) (B : Nat) (v : Value) : Prop := ∃ g, v = .pointer (some ⟨g, 0, none⟩) ∧ Pair w g 37 ∧ B ≤ g
theorem VarAt.below {w w' : World} {B : Nat} {v : Value} (h : VarAt w B v) (hb : Below w.heap.size w w') : VarAt w' B v := by
  obtain ⟨g, rfl, hp, hB⟩ := h
  exact ⟨g, rfl, hp.below hb, hB⟩
/-- .. which holds the number's copy -/
def Holds (w : World) (n : Bool) (l : List Nat) (v : Value) : Prop :=
  ∃ g q k, v = .pointer (some ⟨g, 0, none⟩) ∧ w.heap[g]? = some (.cells #[.bool n, .slice q l.length k] 37 (0, 0)) ∧ At w .u64 (.slice q l.length k) l

structure C2 (g0 : Nat) (n0 n1 : Bool) (p0 p1 : Option Addr) (c0 c1 : Nat) (l0 l1 : List Nat) (B : Nat) (u : World) (L : Array Bool) (s5 s6 s15 s16 s17 s18 : Value) (w : World) : Prop where
  two : Two w g0 (.bool n0) (.slice p0 l0.length c0) (.bool n1) (.slice p1 l1.length c1)
  low : g0 + 2 ≤ B
  bel : Below B u w
  sz : B ≤ w.heap.size
  a0 : At w .u64 (.slice p0 l0.length c0) l0
  a1 : At w .u64 (.slice p1 l1.length c1) l1
  f0 : L.getD 0 false = true → s15 = .agg #[.bool n0, .slice p0 l0.length c0]
  f1 : L.getD 1 false = true → Cop w n0 l0 s16
  f2 : L.getD 2 false = true → s17 = .agg #[.bool n1, .slice p1 l1.length c1]
  f3 : L.getD 3 false = true → Cop w n1 l1 s18
  f4 : L.getD 4 false = true → VarAt w B s5
  f5 : L.getD 5 false = true → VarAt w B s6
  f45 : L.getD 4 false = true → L.getD 5 false = true → s5 ≠ s6
  f6 : L.getD 6 false = true → Holds w n0 l0 s5
  f7 : L.getD 7 false = true → Holds w n1 l1 s6
  d6 : L.getD 6 false = true → L.getD 4 false = true ∧ L.getD 5 false = true
  d7 : L.getD 7 false = true → L.getD 6 false = true

section
variable {g0 : Nat} {n0 n1 : Bool} {p0 p1 : Option Addr} {c0 c1 : Nat} {l0 l1 : List Nat} {B : Nat} {u : World} {L : Array Bool} {s5 s6 s15 s16 s17 s18 : Value} {w : World}
theorem setD {L : Array Bool} {i j : Nat} (h : i ≠ j) (hh : (L.setIfInBounds i true).getD j false = true) : L.getD j false = true := by rwa [getD_set_ne false h] at hh
theorem setUp {L : Array Bool} {i j : Nat} (h : L.getD j false = true) : (L.setIfInBounds i true).getD j false = true := getD_set_true h
theorem C2.load0 (h : C2 g0 n0 n1 p0 p1 c0 c1 l0 l1 B u L s5 s6 s15 s16 s17 s18 w) : C2 g0 n0 n1 p0 p1 c0 c1 l0 l1 B u (L.setIfInBounds 0 true) s5 s6 (.agg #[.bool n0, .slice p0 l0.length c0]) s16 s17 s18 w :=
  { h with
    f0 := fun _ => rfl
    f1 := fun hj => h.f1 (setD (by decide) hj)
    f2 := fun hj => h.f2 (setD (by decide) hj)
    f3 := fun hj => h.f3 (setD (by decide) hj)
    f4 := fun hj => h.f4 (setD (by decide) hj)
    f5 := fun hj => h.f5 (setD (by decide) hj)
    f45 := fun hj hk => h.f45 (setD (by decide) hj) (setD (by decide) hk)
    f6 := fun hj => h.f6 (setD (by decide) hj)
    f7 := fun hj => h.f7 (setD (by decide) hj)
    d6 := fun hj => ⟨setUp (h.d6 (setD (by decide) hj)).1, setUp (h.d6 (setD (by decide) hj)).2⟩
    d7 := fun hj => setUp (h.d7 (setD (by decide) hj)) }
theorem C2.load2 (h : C2 g0 n0 n1 p0 p1 c0 c1 l0 l1 B u L s5 s6 s15 s16 s17 s18 w) : C2 g0 n0 n1 p0 p1 c0 c1 l0 l1 B u (L.setIfInBounds 2 true) s5 s6 s15 s16 (.agg #[.bool n1, .slice p1 l1.length c1]) s18 w :=
  { h with
    f0 := fun hj => h.f0 (setD (by decide) hj)
    f1 := fun hj => h.f1 (setD (by decide) hj)
    f2 := fun _ => rfl
    f3 := fun hj => h.f3 (setD (by decide) hj)
    f4 := fun hj => h.f4 (setD (by decide) hj)
    f5 := fun hj => h.f5 (setD (by decide) hj)
    f45 := fun hj hk => h.f45 (setD (by decide) hj) (setD (by decide) hk)
    f6 := fun hj => h.f6 (setD (by decide) hj)
    f7 := fun hj => h.f7 (setD (by decide) hj)
    d6 := fun hj => ⟨setUp (h.d6 (setD (by decide) hj)).1, setUp (h.d6 (setD (by decide) hj)).2⟩
    d7 := fun hj => setUp (h.d7 (setD (by decide) hj)) }
theorem Holds.below {w w' : World} {n : Bool} {l : List Nat} {v : Value} (h : Holds w n l v) (hb : Below w.heap.size w w') : Holds w' n l v := by
  obtain ⟨g, q, k, rfl, hg, ha⟩ := h
  exact ⟨g, q, k, rfl, (hb.block g (Array.getElem?_eq_some_iff.1 hg).1).trans hg, ha.below hb⟩
theorem C2.call1 (h : C2 g0 n0 n1 p0 p1 c0 c1 l0 l1 B u L s5 s6 s15 s16 s17 s18 w) {w' : World} {v : Value} (hb : Below w.heap.size w w') (hv : Cop w' n0 l0 v) :
    C2 g0 n0 n1 p0 p1 c0 c1 l0 l1 B u (L.setIfInBounds 1 true) s5 s6 s15 v s17 s18 w' :=
  { two := h.two.below hb
    low := h.low
    bel := h.bel.trans (hb.mono h.sz)
    sz := Nat.le_trans h.sz hb.size
    a0 := h.a0.below hb
    a1 := h.a1.below hb
    f0 := fun hj => h.f0 (setD (by decide) hj)
    f1 := fun _ => hv
    f2 := fun hj => h.f2 (setD (by decide) hj)
    f3 := fun hj => (h.f3 (setD (by decide) hj)).below hb
    f4 := fun hj => (h.f4 (setD (by decide) hj)).below hb
    f5 := fun hj => (h.f5 (setD (by decide) hj)).below hb
    f45 := fun hj hk => h.f45 (setD (by decide) hj) (setD (by decide) hk)
    f6 := fun hj => (h.f6 (setD (by decide) hj)).below hb
    f7 := fun hj => (h.f7 (setD (by decide) hj)).below hb
    d6 := fun hj => ⟨setUp (h.d6 (setD (by decide) hj)).1, setUp (h.d6 (setD (by decide) hj)).2⟩
    d7 := fun hj => setUp (h.d7 (setD (by decide) hj)) }
theorem C2.call3 (h : C2 g0 n0 n1 p0 p1 c0 c1 l0 l1 B u L s5 s6 s15 s16 s17 s18 w) {w' : World} {v : Value} (hb : Below w.heap.size w w') (hv : Cop w' n1 l1 v) :
    C2 g0 n0 n1 p0 p1 c0 c1 l0 l1 B u (L.setIfInBounds 3 true) s5 s6 s15 s16 s17 v w' :=
  { two := h.two.below hb
    low := h.low
    bel := h.bel.trans (hb.mono h.sz)
    sz := Nat.le_trans h.sz hb.size
    a0 := h.a0.below hb
    a1 := h.a1.below hb
    f0 := fun hj => h.f0 (setD (by decide) hj)
    f1 := fun hj => (h.f1 (setD (by decide) hj)).below hb
    f2 := fun hj => h.f2 (setD (by decide) hj)
    f3 := fun _ => hv
    f4 := fun hj => (h.f4 (setD (by decide) hj)).below hb
    f5 := fun hj => (h.f5 (setD (by decide) hj)).below hb
    f45 := fun hj hk => h.f45 (setD (by decide) hj) (setD (by decide) hk)
    f6 := fun hj => (h.f6 (setD (by decide) hj)).below hb
    f7 := fun hj => (h.f7 (setD (by decide) hj)).below hb
    d6 := fun hj => ⟨setUp (h.d6 (setD (by decide) hj)).1, setUp (h.d6 (setD (by decide) hj)).2⟩
    d7 := fun hj => setUp (h.d7 (setD (by decide) hj)) }
theorem VarAt.ne {w : World} {v : Value} {B : Nat} (h : VarAt w B v) : v ≠ .pointer (some ⟨w.heap.size, 0, none⟩) := by
  obtain ⟨g, rfl, hp, -⟩ := h
  intro he
  have hl := hp.lt
  injection he with he
  injection he with he
  injection he with he
  omega
theorem C2.alloc4 (h : C2 g0 n0 n1 p0 p1 c0 c1 l0 l1 B u L s5 s6 s15 s16 s17 s18 w) (hu : L.getD 4 false = false) :
    C2 g0 n0 n1 p0 p1 c0 c1 l0 l1 B u (L.setIfInBounds 4 true) (.pointer (some ⟨w.heap.size, 0, none⟩)) s6 s15 s16 s17 s18 (w.alloc (.cells #[.bool false, .slice none 0 0] 37)) :=
  have hb := below1 w (.cells #[.bool false, .slice none 0 0] 37)
  { two := h.two.below hb
    low := h.low
    bel := h.bel.trans (hb.mono h.sz)
    sz := Nat.le_trans h.sz hb.size
    a0 := h.a0.below hb
    a1 := h.a1.below hb
    f0 := fun hj => h.f0 (setD (by decide) hj)
    f1 := fun hj => (h.f1 (setD (by decide) hj)).below hb
    f2 := fun hj => h.f2 (setD (by decide) hj)
    f3 := fun hj => (h.f3 (setD (by decide) hj)).below hb
    f4 := fun _ => ⟨_, rfl, Pair.new .., h.sz⟩
    f5 := fun hj => (h.f5 (setD (by decide) hj)).below hb
    f45 := fun _ hk => ((h.f5 (setD (by decide) hk)).ne).symm
    f6 := fun hj => by have := (h.d6 (setD (by decide) hj)).1; rw [hu] at this; cases this
    f7 := fun hj => by have := (h.d6 (h.d7 (setD (by decide) hj))).1; rw [hu] at this; cases this
    d6 := fun hj => ⟨setUp (h.d6 (setD (by decide) hj)).1, setUp (h.d6 (setD (by decide) hj)).2⟩
    d7 := fun hj => setUp (h.d7 (setD (by decide) hj)) }
theorem C2.alloc5 (h : C2 g0 n0 n1 p0 p1 c0 c1 l0 l1 B u L s5 s6 s15 s16 s17 s18 w) (hu : L.getD 5 false = false) :
    C2 g0 n0 n1 p0 p1 c0 c1 l0 l1 B u (L.setIfInBounds 5 true) s5 (.pointer (some ⟨w.heap.size, 0, none⟩)) s15 s16 s17 s18 (w.alloc (.cells #[.bool false, .slice none 0 0] 37)) :=
  have hb := below1 w (.cells #[.bool false, .slice none 0 0] 37)
  { two := h.two.below hb
    low := h.low
    bel := h.bel.trans (hb.mono h.sz)
    sz := Nat.le_trans h.sz hb.size
    a0 := h.a0.below hb
    a1 := h.a1.below hb
    f0 := fun hj => h.f0 (setD (by decide) hj)
    f1 := fun hj => (h.f1 (setD (by decide) hj)).below hb
    f2 := fun hj => h.f2 (setD (by decide) hj)
    f3 := fun hj => (h.f3 (setD (by decide) hj)).below hb
    f4 := fun hj => (h.f4 (setD (by decide) hj)).below hb
    f5 := fun _ => ⟨_, rfl, Pair.new .., h.sz⟩
    f45 := fun hj _ => (h.f4 (setD (by decide) hj)).ne
    f6 := fun hj => by have := (h.d6 (setD (by decide) hj)).2; rw [hu] at this; cases this
    f7 := fun hj => by have := (h.d6 (h.d7 (setD (by decide) hj))).2; rw [hu] at this; cases this
    d6 := fun hj => ⟨setUp (h.d6 (setD (by decide) hj)).1, setUp (h.d6 (setD (by decide) hj)).2⟩
    d7 := fun hj => setUp (h.d7 (setD (by decide) hj)) }
theorem Cop.stored {w : World} {n : Bool} {l : List Nat} {v : Value} (h : Cop w n l v) {g : Nat} {t : TypeId} (hp : Pair w g t) (x : Bool) (p : Option Addr) (m c : Nat) :
    Cop ((w.setCell ⟨g, 0, none⟩ (.bool x)).setCell ⟨g, 1, none⟩ (.slice p m c)) n l v := by
  obtain ⟨q, k, rfl, ha⟩ := h
  exact ⟨q, k, rfl, ha.stored hp x p m c⟩
theorem Pair.apart {w : World} {g g' : Nat} {t : TypeId} (h : Pair w g t) (hne : g ≠ g') (u u' : Value) : Pair ((w.setCell ⟨g', 0, none⟩ u).setCell ⟨g', 1, none⟩ u') g t := by
  obtain ⟨x, p, n, c, h⟩ := h
  exact ⟨x, p, n, c, ((Below.heap_setCell _ _ _ _ hne).trans (Below.heap_setCell _ _ _ _ hne)).trans h⟩
theorem Pair.self {w : World} {g : Nat} {t : TypeId} (h : Pair w g t) (x : Bool) (p : Option Addr) (n c : Nat) : Pair ((w.setCell ⟨g, 0, none⟩ (.bool x)).setCell ⟨g, 1, none⟩ (.slice p n c)) g t := (h.set0 x).set1 p n c
theorem VarAt.stored {w : World} {B : Nat} {v : Value} (h : VarAt w B v) {g : Nat} (hp : Pair w g 37) (x : Bool) (p : Option Addr) (n c : Nat) : VarAt ((w.setCell ⟨g, 0, none⟩ (.bool x)).setCell ⟨g, 1, none⟩ (.slice p n c)) B v := by
  obtain ⟨g', rfl, hp', hB⟩ := h
  refine ⟨g', rfl, ?_, hB⟩
  by_cases he : g' = g
  · subst he; exact hp'.self x p n c
  · exact hp'.apart he _ _
theorem Pair.put {w : World} {g : Nat} {t : TypeId} (h : Pair w g t) (x : Bool) (p : Option Addr) (n c : Nat) : ((w.setCell ⟨g, 0, none⟩ (.bool x)).setCell ⟨g, 1, none⟩ (.slice p n c)).heap[g]? = some (.cells #[.bool x, .slice p n c] t (0, 0)) := by
  obtain ⟨y, p', n', c', h⟩ := h
  have h1 := heap_setCell_same w g 0 _ t (.bool x) h
  exact heap_setCell_same _ g 1 _ t (.slice p n c) h1
theorem size_stored (w : World) (g : Nat) (u u' : Value) : ((w.setCell ⟨g, 0, none⟩ u).setCell ⟨g, 1, none⟩ u').heap.size = w.heap.size := by simp [World.setCell]
theorem C2.store6 (h : C2 g0 n0 n1 p0 p1 c0 c1 l0 l1 B u L s5 s6 s15 s16 s17 s18 w) (h4 : L.getD 4 false = true) (h5 : L.getD 5 false = true) (hu : L.getD 6 false = false) {g : Nat} {q : Option Addr} {k : Nat}
    (e5 : s5 = .pointer (some ⟨g, 0, none⟩)) (hp : Pair w g 37) (hB : B ≤ g) (ha : At w .u64 (.slice q l0.length k) l0) :
    C2 g0 n0 n1 p0 p1 c0 c1 l0 l1 B u (L.setIfInBounds 6 true) s5 s6 s15 s16 s17 s18 ((w.setCell ⟨g, 0, none⟩ (.bool n0)).setCell ⟨g, 1, none⟩ (.slice q l0.length k)) :=
  { two := (h.two.set g 0 _ (by have := h.low; omega)).set g 1 _ (by have := h.low; omega)
    low := h.low
    bel := Below.stored h.bel hB _ _
    sz := by rw [size_stored]; exact h.sz
    a0 := h.a0.stored hp ..
    a1 := h.a1.stored hp ..
    f0 := fun hj => h.f0 (setD (by decide) hj)
    f1 := fun hj => (h.f1 (setD (by decide) hj)).stored hp ..
    f2 := fun hj => h.f2 (setD (by decide) hj)
    f3 := fun hj => (h.f3 (setD (by decide) hj)).stored hp ..
    f4 := fun hj => (h.f4 (setD (by decide) hj)).stored hp ..
    f5 := fun hj => (h.f5 (setD (by decide) hj)).stored hp ..
    f45 := fun hj hk => h.f45 (setD (by decide) hj) (setD (by decide) hk)
    f6 := fun _ => ⟨g, q, k, e5, hp.put .., ha.stored hp ..⟩
    f7 := fun hj => by have := h.d7 (setD (by decide) hj); rw [hu] at this; cases this
    d6 := fun _ => ⟨setUp h4, setUp h5⟩
    d7 := fun hj => setUp (h.d7 (setD (by decide) hj)) }
theorem C2.store7 (h : C2 g0 n0 n1 p0 p1 c0 c1 l0 l1 B u L s5 s6 s15 s16 s17 s18 w) (h6 : L.getD 6 false = true) {g : Nat} {q : Option Addr} {k : Nat}
    (e6 : s6 = .pointer (some ⟨g, 0, none⟩)) (hp : Pair w g 37) (hB : B ≤ g) (ha : At w .u64 (.slice q l1.length k) l1) :
    C2 g0 n0 n1 p0 p1 c0 c1 l0 l1 B u (L.setIfInBounds 7 true) s5 s6 s15 s16 s17 s18 ((w.setCell ⟨g, 0, none⟩ (.bool n1)).setCell ⟨g, 1, none⟩ (.slice q l1.length k)) :=
  { two := (h.two.set g 0 _ (by have := h.low; omega)).set g 1 _ (by have := h.low; omega)
    low := h.low
    bel := Below.stored h.bel hB _ _
    sz := by rw [size_stored]; exact h.sz
    a0 := h.a0.stored hp ..
    a1 := h.a1.stored hp ..
    f0 := fun hj => h.f0 (setD (by decide) hj)
    f1 := fun hj => (h.f1 (setD (by decide) hj)).stored hp ..
    f2 := fun hj => h.f2 (setD (by decide) hj)
    f3 := fun hj => (h.f3 (setD (by decide) hj)).stored hp ..
    f4 := fun hj => (h.f4 (setD (by decide) hj)).stored hp ..
    f5 := fun hj => (h.f5 (setD (by decide) hj)).stored hp ..
    f45 := fun hj hk => h.f45 (setD (by decide) hj) (setD (by decide) hk)
    f6 := fun hj => by
      have hd := h.d6 h6
      have hne := h.f45 hd.1 hd.2
      obtain ⟨g', q', k', e', hg', ha'⟩ := h.f6 h6
      have hgg : g' ≠ g := by rintro rfl; exact hne (e'.trans e6.symm)
      exact ⟨g', q', k', e', ((Below.heap_setCell _ _ _ _ hgg).trans (Below.heap_setCell _ _ _ _ hgg)).trans hg', ha'.stored hp ..⟩
    f7 := fun _ => ⟨g, q, k, e6, hp.put .., ha.stored hp ..⟩
    d6 := fun _ => ⟨setUp (h.d6 h6).1, setUp (h.d6 h6).2⟩
    d7 := fun _ => setUp h6 }
/-- all has come up -/
structure Done2 (g0 : Nat) (n0 n1 : Bool) (p0 p1 : Option Addr) (c0 c1 : Nat) (l0 l1 : List Nat) (B : Nat) (u : World) (s5 s6 : Value) (w : World) : Prop where
  two : Two w g0 (.bool n0) (.slice p0 l0.length c0) (.bool n1) (.slice p1 l1.length c1)
  bel : Below B u w
  sz : B ≤ w.heap.size
  a0 : At w .u64 (.slice p0 l0.length c0) l0
  a1 : At w .u64 (.slice p1 l1.length c1) l1
  hx : Holds w n0 l0 s5
  hy : Holds w n1 l1 s6
theorem C2.done (h : C2 g0 n0 n1 p0 p1 c0 c1 l0 l1 B u L s5 s6 s15 s16 s17 s18 w) (h6 : L.getD 6 false = true) (h7 : L.getD 7 false = true) : Done2 g0 n0 n1 p0 p1 c0 c1 l0 l1 B u s5 s6 w :=
  { h with hx := h.f6 h6, hy := h.f7 h7 }
theorem C2.start {g0 : Nat} {n0 n1 : Bool} {p0 p1 : Option Addr} {c0 c1 : Nat} {l0 l1 : List Nat} {w : World} {s5 s6 s15 s16 s17 s18 : Value} (ht : Two w g0 (.bool n0) (.slice p0 l0.length c0) (.bool n1) (.slice p1 l1.length c1))
    (ha : At w .u64 (.slice p0 l0.length c0) l0) (hb : At w .u64 (.slice p1 l1.length c1) l1) : C2 g0 n0 n1 p0 p1 c0 c1 l0 l1 w.heap.size w (Array.replicate 8 false) s5 s6 s15 s16 s17 s18 w.drew :=
  { two := ht.drew, low := ht.lt, bel := Below.drew (Below.refl _ _), sz := Nat.le_refl _, a0 := ha.drew, a1 := hb.drew
    f0 := fun h => by simp at h
    f1 := fun h => by simp at h
    f2 := fun h => by simp at h
    f3 := fun h => by simp at h
    f4 := fun h => by simp at h
    f5 := fun h => by simp at h
    f45 := fun h => by simp at h
    f6 := fun h => by simp at h
    f7 := fun h => by simp at h
    d6 := fun h => by simp at h
    d7 := fun h => by simp at h }
theorem listed_of {L : Array Bool} {n i : Nat} (h : ∀ i, i < n → L.getD i true = true) (hs : L.size = n) (hi : i < n) : L.getD i false = true := by
  have := h i hi
  have hl : i < L.size := by omega
  simpa [Array.getD, hl] using this
end
end Go.Proofs.YthheafjilbeddaaDoor
/- whole.times and whole.Mul. -/
namespace Go.Proofs.YthheafjilbeddaaDoor
open Go.RowKit Big


theorem sz_H_W (n : Nat) : sz H n ≤ 2 * sz W n := by
  refine sz_le_of_lt H2 ?_
  rw [Nat.pow_mul, show H ^ 2 = W from rfl]
  exact lt_pow_sz W2 n


theorem sg_mul (n0 n1 : Bool) (x y : Nat) : sg (n0 != n1) (x * y) = sg n0 x * sg n1 y := by
  unfold sg; cases n0 <;> cases n1 <;> simp [Int.neg_mul, Int.mul_neg]

end Go.Proofs.YthheafjilbeddaaDoor
/- elenchusref01.Mul. -/
namespace Go.Proofs.YthheafjilbeddaaDoor
open Go.RowKit Big

theorem sz_D_W (n : Nat) : sz D n ≤ 4 * sz W n := by
  refine sz_le_of_lt D2 ?_
  rw [Nat.pow_mul, show D ^ 4 = W from rfl]
  exact lt_pow_sz W2 n

set_option maxRecDepth 100000 in
set_option maxHeartbeats 1600000 in
theorem RMul_any (v0 v1 : Value) (a b : Int) (w : World) (h0 : RawAt w v0 a) (h1 : RawAt w v1 b) (ha : sz W a.natAbs ≤ 549755813888) (hb : sz W b.natAbs ≤ 549755813888) :
    Calls Tryd.prog 80 #[v0, v1] w (RInt (a * b) w) := by
  obtain ⟨n0, s0, l0, rfl, a0, b0, c0, rfl⟩ := h0
  obtain ⟨n1, s1, l1, rfl, a1, b1, c1, rfl⟩ := h1
  rw [sg_natAbs] at ha hb
  have g0 : ∀ W', Below w.heap.size w W' → Calls Tryd.prog 58 #[s0] W' (RAt .i64 (dig D (val W l0)) W') := fun W' hb => Digits_any s0 l0 W' (a0.below hb) b0 (by omega)
  have g1 : ∀ W', Below w.heap.size w W' → Calls Tryd.prog 58 #[s1] W' (RAt .i64 (dig D (val W l1)) W') := fun W' hb => Digits_any s1 l1 W' (a1.below hb) b1 (by omega)
  obtain ⟨r, hr⟩ : ∃ r, r = sg n0 (val W l0) * sg n1 (val W l1) := ⟨_, rfl⟩
  rw [← hr]
  have Hr : Hid (sg (n0 != n1) (val W l0 * val W l1) = r) := by unfold Hid; rw [sg_mul, hr]
  clear hr
  generalize val W l0 = x at *
  generalize val W l1 = y at *
  have d0 : sz D x ≤ 2199023255552 := Nat.le_trans (sz_D_W x) (by omega)
  have d1 : sz D y ≤ 2199023255552 := Nat.le_trans (sz_D_W y) (by omega)
  have dxy : sz D (x * y) ≤ 8796093022208 := Nat.le_trans (sz_mul D2 x y) (by omega)
  have wxy : sz W (x * y) ≤ 2199023255552 := Nat.le_trans (sz_mul W2 x y) (by omega)
  have ht : ∀ W' u u', At W' .i64 u (dig D x) → At W' .i64 u' (dig D y) → Calls Tryd.prog 91 #[u, u'] W' (RAt .i64 (dig D (x * y)) W') := fun W' u u' hu hu' => by
    have := rtimes_any u u' _ _ W' hu hu' (small_dig D2 x) (small_dig D2 y) (by show sz D x ≤ _; omega) (by show sz D y ≤ _; omega)
    rwa [val_dig D2, val_dig D2] at this
  have hf : ∀ W' u, At W' .i64 u (dig D (x * y)) → Calls Tryd.prog 57 #[u] W' (RAt .u64 (dig W (x * y)) W') := fun W' u hu => by
    have := From_any u _ W' hu (small_dig D2 _) dxy
    rwa [val_dig D2] at this
  have hw : ∀ W' u, At W' .u64 u (dig W (x * y)) → Calls Tryd.prog 36 #[.bool (n0 != n1), u] W' (RInt r W') := fun W' u hu => by
    have := Whole_any (n0 != n1) u _ W' hu (small_dig W2 _) wxy
    rw [val_dig W2, Hr.out] at this
    exact this
  have G0 := hid g0; have G1 := hid g1; have HT := hid ht; have HF := hid hf; have HW := hid hw
  clear g0 g1 ht hf hw a0 a1 b0 b1 c0 c1 ha hb Hr
  go_enter Tryd.func80, Tryd.ntmps80
  go_wp2_with fail
  generalize hW : World.alloc (World.alloc (World.alloc w _) _) _ = W3
  have bw : Below w.heap.size w W3 := by rw [← hW]; exact ((below1 _ _).alloc (by simp) _).alloc (by simp; omega) _
  have hp : Pair W3 (w.heap.size + 1 + 1) 37 := by rw [← hW]; exact Pair.new2 ..
  obtain ⟨c00, c01, c10, c11, -⟩ : Two W3 w.heap.size (.bool n0) s0 (.bool n1) s1 := by rw [← hW]; exact (Two.new w _ _ _ _ _).below (below1 _ _)
  have z3 : w.heap.size + 3 ≤ W3.heap.size := by rw [← hW]; simp
  have bw' := hid bw
  clear hW
  go_region_held3 (fun w' => w'.cell? ⟨w.heap.size, 0, none⟩ = some (.bool n0) ∧ w'.cell? ⟨w.heap.size, 1, none⟩ = some s0 ∧ w'.cell? ⟨w.heap.size + 1, 0, none⟩ = some (.bool n1) ∧ w'.cell? ⟨w.heap.size + 1, 1, none⟩ = some s1 ∧ Pair w' (w.heap.size + 1 + 1) 37)
    (first | (go_split_ands; (try dsimp only); (repeat' apply And.intro) <;> first | assumption | exact Pair.drew ‹_› | exact Pair.below ‹_› hb9 | exact Pair.below ‹_› hb8 | exact Pair.below ‹_› hb7 | exact Pair.below ‹_› hb6 | exact Pair.below ‹_› hb5 | exact Pair.below ‹_› hb4 | exact Pair.below ‹_› hb3 | exact Pair.below ‹_› hb2 | exact Pair.below ‹_› hb1 | exact (hb9.cell (by first | omega | (simp; omega) | (simp; done))).trans ‹_› | exact (hb8.cell (by first | omega | (simp; omega) | (simp; done))).trans ‹_› | exact (hb7.cell (by first | omega | (simp; omega) | (simp; done))).trans ‹_› | exact (hb6.cell (by first | omega | (simp; omega) | (simp; done))).trans ‹_› | exact (hb5.cell (by first | omega | (simp; omega) | (simp; done))).trans ‹_› | exact (hb4.cell (by first | omega | (simp; omega) | (simp; done))).trans ‹_› | exact (hb3.cell (by first | omega | (simp; omega) | (simp; done))).trans ‹_› | exact (hb2.cell (by first | omega | (simp; omega) | (simp; done))).trans ‹_› | exact (hb1.cell (by first | omega | (simp; omega) | (simp; done))).trans ‹_› | exact Pair.set1 (Pair.set0 ‹_› _) _ _ _ | exact (cell_stored _ (by first | (dsimp only; omega) | (simp; done) | (simp; omega)) _ _).trans ‹_› | exact Pair.drew (Pair.below ‹_› (below1 _ _)) | exact Pair.below ‹_› (below1 _ _) | exact Pair.far ‹_› (by omega) hb1 | exact Pair.new .. | exact Pair.new1 .. | exact Pair.new2 .. | (go_keep; done)) | (go_keep; done))
    (first
      | (go_at_call_of 58 (s0); (fail_if_success have _t := i1); refine (G0.out _ (Below.drew bw'.out)).mono ?_; rintro e w1 ⟨v1, rfl, i1, hb1⟩; have hz1 : w.heap.size + 3 ≤ w1.heap.size := (by have := hb1.size; simp at this; omega); have bw1 := hid (bw'.out.drew.trans (hb1.mono (B' := w.heap.size) (by simp; omega))))
      | (go_at_call_of 58 (s1); refine (G1.out _ bw1.out).mono ?_; rintro e w2 ⟨v2, rfl, i2, hb2⟩; have i1' := i1.below hb2; have hz2 : w.heap.size + 3 ≤ w2.heap.size := (by have := hb2.size; omega); have bw2 := hid (bw1.out.trans (hb2.mono (B' := w.heap.size) (by omega))))
      | (go_at_call 91; refine (HT.out _ _ _ i1' i2).mono ?_; rintro e w3 ⟨v3, rfl, i3, hb3⟩; have hz3 : w.heap.size + 3 ≤ w3.heap.size := (by have := hb3.size; omega); have bw3 := hid (bw2.out.trans (hb3.mono (B' := w.heap.size) (by omega))))
      | (go_at_call 57; refine (HF.out _ _ i3).mono ?_; rintro e w4 ⟨v4, rfl, i4, hb4⟩; have hz4 : w.heap.size + 3 ≤ w4.heap.size := (by have := hb4.size; omega); have bw4 := hid (bw3.out.trans (hb4.mono (B' := w.heap.size) (by omega))))
      | (go_at_call 36; refine (HW.out _ _ i4).mono ?_; rintro e w5 ⟨v5, rfl, hi5, hb5⟩; have hz5 : w.heap.size + 3 ≤ w5.heap.size := (by have := hb5.size; omega); have bw5 := hid (bw4.out.trans (hb5.mono (B' := w.heap.size) (by omega))); obtain ⟨p5, n5, c5, rfl, hi5⟩ := hi5.shape; have hpr := Pair.below (by go_split_ands; assumption) hb5; obtain ⟨_, _, q0, q1, q2, q3⟩ := hpr.cells))
  go_wp2
  exact bodyPost_ret (v := .agg #[.bool (decide (r < 0)), .slice p5 n5 c5]) (by simp [results, Tryd.results80, go_sem, q0, q1]) rfl
    ⟨_, rfl, hi5.stored hpr _ _ _ _, Below.stored bw5.out (by omega) _ _⟩
end Go.Proofs.YthheafjilbeddaaDoor
/- elenchusmake's numbers that are used up. -/
namespace Go.Proofs.YthheafjilbeddaaDoor
open Go.RowKit Big Go.WideMaps

/-- blocks whose type is none of a tape's, a build's or a term's stay, and so does all below N -/
structure MkFr (w w' : World) : Prop where
  os : w'.os = w.os
  tape : w'.tape = w.tape
  output : w'.output = w.output
  size : w.heap.size ≤ w'.heap.size
  block : ∀ (k : Nat) (o : Obj), w.heap[k]? = some o → (∀ c : Array Value, o ≠ Obj.cells c 60 (0, 0) ∧ o ≠ Obj.cells c 88 (0, 0) ∧ o ≠ Obj.cells c 39 (0, 0)) → w'.heap[k]? = some o
theorem MkFr.refl (w : World) : MkFr w w := ⟨rfl, rfl, rfl, Nat.le_refl _, fun _ _ h _ => h⟩
theorem MkFr.trans {a b c : World} (h : MkFr a b) (k : MkFr b c) : MkFr a c := ⟨k.os.trans h.os, k.tape.trans h.tape, k.output.trans h.output, Nat.le_trans h.size k.size, fun i o hi hn => k.block i o (h.block i o hi hn) hn⟩
theorem MkFr.of_below {w w' : World} (h : Below w.heap.size w w') : MkFr w w' := ⟨h.os, h.tape, h.output, h.size, fun i o hi _ => (h.block i (Array.getElem?_eq_some_iff.1 hi).1).trans hi⟩
theorem MkFr.drewN {a w : World} (h : MkFr a w) (n : Nat) : MkFr a (w.drewN n) := ⟨h.os, h.tape, h.output, h.size, h.block⟩
theorem MkFr.drew {a w : World} (h : MkFr a w) : MkFr a w.drew := ⟨h.os, h.tape, h.output, h.size, h.block⟩
theorem MkFr.set {a w : World} (h : MkFr a w) {p : Addr} {c : Array Value} {t : TypeId} (hp : w.heap[p.block]? = some (.cells c t (0, 0))) (ht : t = 60 ∨ t = 88 ∨ t = 39) (u : Value) : MkFr a (w.setCell p u) :=
  h.trans ⟨rfl, rfl, rfl, by simp [World.setCell], fun k o hk hn => (Below.heap_setCell _ _ _ _ (fun e => by
    rw [e] at hk
    have := hk.symm.trans hp
    injection this with this
    have h1 := hn c
    rcases ht with rfl | rfl | rfl
    · exact h1.1 this
    · exact h1.2.1 this
    · exact h1.2.2 this)).trans hk⟩
theorem MkFr.cells {w w' : World} (h : MkFr w w') {k : Nat} {c : Array Value} {t : TypeId} (hk : w.heap[k]? = some (.cells c t (0, 0))) (h1 : t ≠ 60) (h2 : t ≠ 88) (h3 : t ≠ 39) : w'.heap[k]? = some (.cells c t (0, 0)) :=
  h.block k _ hk fun c' => ⟨fun e => by injection e with _ e; exact h1 e, fun e => by injection e with _ e; exact h2 e, fun e => by injection e with _ e; exact h3 e⟩
theorem MkFr.row {w w' : World} (h : MkFr w w') {b : Nat} {e : TypeId} {s : Nat} {v : Value} {n : Nat} {xs : List Value} (hr : w.ownsRow b e s v n xs) (h1 : e ≠ 60) (h2 : e ≠ 88) (h3 : e ≠ 39) : w'.ownsRow b e s v n xs :=
  row_stays hr fun k hk => by
    obtain ⟨c, hc⟩ := row_tag hr k hk
    rw [hc]
    exact h.cells hc h1 h2 h3
/-- the tape in block t -/
def TpAt (w : World) (t : Nat) (v : Value) (l : Nat) : Prop := ∃ a : Nat, a ≤ l ∧ w.heap[t]? = some (.cells #[v, .int .i64 (a : Nat)] 60 (0, 0))
/-- what Next answers: a number below n, or 0 -/
def RNext (t : Nat) (v : Value) (l : Nat) (n : Int) (w : World) (e : Ending) (w' : World) : Prop := ∃ k : Nat, e = .returned (.int .i64 (k : Nat)) ∧ ((k : Int) < n ∨ k = 0) ∧ TpAt w' t v l ∧ Apart (fun i => i = t) w w'
set_option maxRecDepth 100000 in
set_option maxHeartbeats 3200000 in
theorem Next_any (t : Nat) (v : Value) (l : List Nat) (n : Int) (w : World) (ht : TpAt w t v l.length) (hl : At w .u8 v l) (hn : ∀ y ∈ l, y < 256) (hi : n ≤ 1000000) :
    Calls Tryd.prog 45 #[.pointer (some ⟨t, 0, none⟩), .int .i64 n] w (RNext t v l.length n w) := by
  obtain ⟨a, ha, hc⟩ := ht
  have HC := hid hc
  obtain ⟨p, cap, rfl, h1, h2, h3, h4⟩ := hl
  obtain ⟨c0, c1, f0, f1⟩ := two_cells hc
  unfold maxLen at h2
  have H4 := hid h4
  clear h4 hc
  go_enter Tryd.func45, Tryd.ntmps45
  cases hd : decide (n < 2)
  case true =>
    go_wp2_with fail
    go_quiet (fail)
    go_wp2
    go_ret
    exact ⟨0, rfl, .inr rfl, ⟨a, ha, HC.out⟩, (Apart.refl _ _).drewN _⟩
  case false =>
    have hn2 : ¬ n < 2 := of_decide_eq_false hd
    cases hd2 : decide (l.length ≤ a)
    case true =>
      go_wp2_with fail
      go_quiet (fail)
      go_wp2
      go_ret
      exact ⟨0, rfl, .inr rfl, ⟨a, ha, HC.out⟩, (Apart.refl _ _).drewN _⟩
    case false =>
      have hal : a < l.length := by have := of_decide_eq_false hd2; omega
      obtain ⟨b, off, rfl, k1, k2⟩ := H4.out (by omega)
      have m := k2 a hal
      have hy := hn l[a] (List.getElem_mem hal)
      generalize l[a] = y at *
      go_wp2_with fail
      go_quiet (fail)
      clear c0 c1 f0 f1
      have q := two_cells (show (w.drewN nq).heap[t]? = _ from HC.out)
      obtain ⟨c0, c1, f0, f1⟩ := q
      go_upto_region 4 with fail
      generalize hW : World.setCell (w.drewN nq) ⟨t, 1, none⟩ _ = W4
      have hbt : b ≠ t := by
        intro e
        rw [e, cell_of_row w t (off + a) _ _ (0, 0) HC.out] at m
        rcases hj : off + a with _ | _ | j
        · rw [hj] at m; simp at m
        · rw [hj] at m; simp at m
        · rw [hj] at m; simp at m
      have hA4 : Apart (fun i => i = t) w W4 := by rw [← hW]; exact Apart.setCell (p := ⟨t, 1, none⟩) ((Apart.refl (fun i => i = t) w).drewN nq) rfl _
      have hc4 : W4.heap[t]? = some (.cells #[.slice (some ⟨b, off, none⟩) l.length cap, .int .i64 ((a + 1 : Nat) : Int)] 60 (0, 0)) := by
        rw [← hW]
        have := heap_setCell_same (w.drewN nq) t 1 _ _ (.int .i64 ((a : Int) + 1)) (show (w.drewN nq).heap[t]? = _ from HC.out)
        simpa using this
      have m4 := (hA4.cell (p := ⟨b, off + a, none⟩) k1 hbt).trans m
      have HA4 := hid hA4; have HC4 := hid hc4
      clear hW hA4 c0 c1 f0 f1 m
      have q := two_cells hc4
      obtain ⟨c0, c1, -, -⟩ := q
      clear hc4 hd hd2
      go_wp2_with fail
      go_quiet (fail)
      go_wp2
      go_ret
      obtain ⟨kk, hk⟩ : ∃ kk : Nat, (y : Int) % n = (kk : Nat) := ⟨((y : Int) % n).toNat, by have := Int.emod_nonneg (y : Int) (show n ≠ 0 by omega); omega⟩
      have hlt := Int.emod_lt_of_pos (y : Int) (show 0 < n by omega)
      refine ⟨kk, ?_, .inl (by omega), ⟨a + 1, by omega, HC4.out⟩, HA4.out.drewN _⟩
      show Ending.returned (.int .i64 ((y : Int) % n)) = _
      rw [hk]
/-- the tape in block t, its bytes as they came in with W0, and nothing of W0 turned -/
def TpIn (W0 w : World) (t : Nat) (v : Value) (l : List Nat) : Prop := At W0 .u8 v l ∧ (∀ y ∈ l, y < 256) ∧ W0.heap.size ≤ t ∧ Below W0.heap.size W0 w ∧ TpAt w t v l.length
theorem TpAt.lt {w : World} {t : Nat} {v : Value} {n : Nat} (h : TpAt w t v n) : t < w.heap.size := by
  obtain ⟨a, -, h⟩ := h
  exact lt_of_block h
theorem TpIn.go {W0 w w' : World} {t : Nat} {v : Value} {l : List Nat} (h : TpIn W0 w t v l) (hb : Below w.heap.size w w') : TpIn W0 w' t v l := by
  obtain ⟨h1, h2, h3, h4, a, ha, hc⟩ := h
  exact ⟨h1, h2, h3, bel_go hb h4, a, ha, (hb.block t (lt_of_block hc)).trans hc⟩
theorem Next_in {W0 w : World} {t : Nat} {v : Value} {l : List Nat} (n : Int) (h : TpIn W0 w t v l) (hi : n ≤ 1000000) :
    Calls Tryd.prog 45 #[.pointer (some ⟨t, 0, none⟩), .int .i64 n] w (fun e w' => ∃ k : Nat, e = .returned (.int .i64 (k : Nat)) ∧ ((k : Int) < n ∨ k = 0) ∧ TpIn W0 w' t v l ∧ Apart (fun i => i = t) w w') := by
  obtain ⟨h1, h2, h3, h4, h5⟩ := h
  refine (Next_any t v l n w h5 (h1.below h4) h2 hi).mono ?_
  rintro e w' ⟨k, he, hk, ht, hA⟩
  exact ⟨k, he, hk, ⟨h1, h2, h3, h4.trans (hA.below h4.size (fun i hi => by rw [hi]; exact h3)), ht⟩, hA⟩
theorem TpIn.fr {W0 w w' : World} {t : Nat} {v : Value} {l : List Nat} (h : TpIn W0 w t v l) (hA : Apart (fun i => i = t) w w') : MkFr w w' := by
  obtain ⟨-, -, -, -, a, -, hc⟩ := h
  refine ⟨hA.os, hA.tape, hA.output, hA.size, fun k o hk hn => (hA.block k (Array.getElem?_eq_some_iff.1 hk).1 (fun e => ?_)).trans hk⟩
  rw [e, hc] at hk
  injection hk with hk
  exact (hn _).1 hk.symm
end Go.Proofs.YthheafjilbeddaaDoor
/- elenchusmake's numbers: small ones, now and then great ones. -/
namespace Go.Proofs.YthheafjilbeddaaDoor
open Go.RowKit Big Go.WideMaps

theorem MkFr.setNew {a w : World} (h : MkFr a w) {p : Addr} (hp : a.heap.size ≤ p.block) (u : Value) : MkFr a (w.setCell p u) :=
  ⟨h.os, h.tape, h.output, by simpa [World.setCell] using h.size, fun k o hk hn => (Below.heap_setCell _ _ _ _ (fun e => by
    have := (Array.getElem?_eq_some_iff.1 hk).1
    omega)).trans (h.block k o hk hn)⟩
theorem TpIn.set {W0 w : World} {t : Nat} {v : Value} {l : List Nat} (h : TpIn W0 w t v l) {p : Addr} (hp : W0.heap.size ≤ p.block) (hn : p.block ≠ t) (u : Value) : TpIn W0 (w.setCell p u) t v l := by
  obtain ⟨h1, h2, h3, h4, a, ha, hc⟩ := h
  exact ⟨h1, h2, h3, h4.setCell hp u, a, ha, (Below.heap_setCell _ _ _ _ (fun e => hn e.symm)).trans hc⟩
/-- a number in a box -/
def BoxAt (w : World) (X : Nat) (z : Int) : Prop := ∃ p n c, w.heap[X]? = some (.cells #[.bool (decide (z < 0)), .slice p n c] 37 (0, 0)) ∧ IntAt w (.agg #[.bool (decide (z < 0)), .slice p n c]) z
theorem IntAt.below' {w w' : World} {v : Value} {z : Int} (h : IntAt w v z) (hb : Below w.heap.size w w') : IntAt w' v z := by
  obtain ⟨s, hs, ha⟩ := h
  exact ⟨s, hs, ha.below hb⟩
theorem BoxAt.go {w w' : World} {X : Nat} {z : Int} (h : BoxAt w X z) (hb : Below w.heap.size w w') : BoxAt w' X z := by
  obtain ⟨p, n, c, h1, h2⟩ := h
  exact ⟨p, n, c, (hb.block X (lt_of_block h1)).trans h1, h2.below' hb⟩
theorem BoxAt.new {w : World} {z : Int} {p : Option Addr} {n c : Nat} (h : IntAt w (.agg #[.bool (decide (z < 0)), .slice p n c]) z) : BoxAt (w.alloc (.cells #[.bool (decide (z < 0)), .slice p n c] 37)) w.heap.size z :=
  ⟨p, n, c, heap_alloc_new w _, h.below' (below1 _ _)⟩
theorem BoxAt.set {w : World} {X : Nat} {y z : Int} (h : BoxAt w X y) {p : Option Addr} {n c : Nat} (i : IntAt w (.agg #[.bool (decide (z < 0)), .slice p n c]) z) : BoxAt ((w.setCell ⟨X, 0, none⟩ (.bool (decide (z < 0)))).setCell ⟨X, 1, none⟩ (.slice p n c)) X z := by
  obtain ⟨p', n', c', h1, -⟩ := h
  obtain ⟨s, hs, ha⟩ := i
  have hs : s = .slice p n c := by simpa using hs.symm
  subst hs
  have e1 : (w.setCell ⟨X, 0, none⟩ (.bool (decide (z < 0)))).heap[X]? = some (.cells #[.bool (decide (z < 0)), .slice p' n' c'] 37 (0, 0)) := by simpa using heap_setCell_same w X 0 _ _ (.bool (decide (z < 0))) h1
  exact ⟨p, n, c, set2_same h1 _ _, _, rfl, (ha.offRec h1 (by simp [noWord]) 0 _).offRec e1 (by simp [noWord]) 1 _⟩
theorem At.tape {w w' : World} {t : Nat} {v x : Value} {l : List Nat} {a : Int} {ty : TypeId} (h : At w .u64 v l) (hc : w.heap[t]? = some (.cells #[x, .int .i64 a] ty (0, 0))) (hx : ∃ p n c, x = .slice p n c) (hA : Apart (fun i => i = t) w w') : At w' .u64 v l := by
  obtain ⟨p, cap, rfl, h1, h2, h3, h4⟩ := h
  refine ⟨p, cap, rfl, h1, h2, h3, fun hp => ?_⟩
  obtain ⟨b, off, h5, h6, h7⟩ := h4 hp
  have hbt : b ≠ t := by
    intro e
    have m := h7 0 hp
    obtain ⟨p', n', c', rfl⟩ := hx
    rw [e, cell_of_row w t (off + 0) _ _ (0, 0) hc] at m
    rcases hj : off + 0 with _ | _ | j
    · rw [hj] at m; simp at m
    · rw [hj] at m; simp at m
    · rw [hj] at m; simp at m
  exact ⟨b, off, h5, Nat.lt_of_lt_of_le h6 hA.size, fun i hi => (hA.cell (p := ⟨b, off + i, none⟩) h6 hbt).trans (h7 i hi)⟩
theorem TpIn.int {W0 w w' : World} {t : Nat} {v u : Value} {l : List Nat} {z : Int} (h : TpIn W0 w t v l) (i : IntAt w u z) (hA : Apart (fun i => i = t) w w') : IntAt w' u z := by
  obtain ⟨s, hs, ha⟩ := i
  obtain ⟨⟨p, cap, rfl, -⟩, -, -, -, a, -, hc⟩ := h
  exact ⟨s, hs, ha.tape hc ⟨_, _, _, rfl⟩ hA⟩
theorem TpIn.box {W0 w w' : World} {t X : Nat} {v : Value} {l : List Nat} {z : Int} (h : TpIn W0 w t v l) (i : BoxAt w X z) (hn : X ≠ t) (hA : Apart (fun i => i = t) w w') : BoxAt w' X z := by
  obtain ⟨p, n, c, h1, h2⟩ := i
  exact ⟨p, n, c, (hA.block X (lt_of_block h1) hn).trans h1, h.int h2 hA⟩
set_option maxRecDepth 100000 in
set_option maxHeartbeats 6400000 in
theorem Num_any {W0 w : World} {t : Nat} {v : Value} {l : List Nat} (h : TpIn W0 w t v l) :
    Calls Tryd.prog 63 #[.pointer (some ⟨t, 0, none⟩)] w (fun e w' => ∃ u z, e = .returned u ∧ IntAt w' u z ∧ sz W z.natAbs ≤ 8 ∧ TpIn W0 w' t v l ∧ MkFr w w') := by
  have b0 := below1 w (.cells #[.bool false, .slice none 0 0] 37)
  have hr0 := heap_alloc_new w (.cells #[.bool false, .slice none 0 0] 37)
  have hz0 := size_alloc w (.cells #[.bool false, .slice none 0 0] 37)
  have htl := h.2.2.2.2.lt
  have htW := h.2.2.1
  have hWw := h.2.2.2.1.size
  have H1 := hid (h.go b0)
  have F1 := hid (MkFr.of_below b0)
  clear h b0
  go_enter Tryd.func63, Tryd.ntmps63
  go_wp2_with fail
  generalize hW : (w.alloc (.cells #[.bool false, .slice none 0 0] 37)) = W1 at *
  clear hW
  refine (Next_in 9 H1.out (by decide)).mono ?_
  rintro e w1 ⟨k, rfl, hk, h1, hA1⟩
  have hk9 : (k : Int) < 9 := by omega
  have hr1 := (hA1.block w.heap.size (by omega) (by omega)).trans hr0
  have F2 := hid (F1.out.trans (H1.out.fr hA1))
  have H2 := hid h1
  have hz1 := hA1.size
  clear hA1 h1 hr0 hk F1 H1
  go_wp2_with fail
  refine (ROf_any ((k : Int) - 4) w1 (by omega) (by omega)).mono ?_
  rintro e w2 ⟨u, rfl, i2, b2⟩
  obtain ⟨p2, n2, c2, rfl, i2⟩ := i2.shape
  have hr2 := (b2.block w.heap.size (by omega)).trans hr1
  have hz2 := b2.size
  have b3 := below1 w2 (.cells #[.bool (decide ((k : Int) - 4 < 0)), .slice p2 n2 c2] 37)
  have x3 := BoxAt.new i2
  have hz3 := size_alloc w2 (.cells #[.bool (decide ((k : Int) - 4 < 0)), .slice p2 n2 c2] 37)
  have hr3 := (b3.block w.heap.size (by omega)).trans hr2
  have H3 := hid ((H2.out.go b2).go b3)
  have F3 := hid (F2.out.trans (MkFr.of_below (bel_go b3 b2)))
  have X3 := hid x3; have R3 := hid hr3
  have hsz : sz W ((k : Int) - 4).natAbs ≤ 1 := sz_le_of_lt W2 (by unfold W; omega)
  clear hr1 hr2 x3 hr3 i2 b2 b3 F2 H2
  go_wp2_with fail
  generalize hW : (w2.alloc (.cells #[.bool (decide ((k : Int) - 4 < 0)), .slice p2 n2 c2] 37)) = W3 at *
  clear hW
  refine (Next_in 12 H3.out (by decide)).mono ?_
  rintro e w4 ⟨k2, rfl, hk2, h4, hA4⟩
  have hk12 : (k2 : Int) < 12 := by omega
  have X4 := hid (H3.out.box X3.out (by omega) hA4)
  have R4 := hid ((hA4.block w.heap.size (by omega) (by omega)).trans R3.out)
  have F4 := hid (F3.out.trans (H3.out.fr hA4))
  have H4 := hid h4
  have hz4 := hA4.size
  clear hA4 h4 hk2 F3 H3 X3 R3
  have fin : ∀ (wf : World) (z : Int), sz W z.natAbs ≤ 8 → BoxAt wf w2.heap.size z → wf.heap[w.heap.size]? = some (.cells #[.bool false, .slice none 0 0] 37 (0, 0)) → TpIn W0 wf t v l → MkFr w wf →
      ∃ p n c, wf.cell? ⟨w2.heap.size, 0, none⟩ = some (.bool (decide (z < 0))) ∧ wf.cell? ⟨w2.heap.size, 1, none⟩ = some (.slice p n c) ∧ wf.cell? ⟨w.heap.size, 0, none⟩ = some (.bool false) ∧ wf.cell? ⟨w.heap.size, 1, none⟩ = some (.slice none 0 0) ∧ wf.frozen? ⟨w.heap.size, 0, none⟩ = false ∧ wf.frozen? ⟨w.heap.size, 1, none⟩ = false ∧
        ((wf.setCell ⟨w.heap.size, 0, none⟩ (.bool (decide (z < 0)))).setCell ⟨w.heap.size, 1, none⟩ (.slice p n c)).cell? ⟨w.heap.size, 0, none⟩ = some (.bool (decide (z < 0))) ∧ ((wf.setCell ⟨w.heap.size, 0, none⟩ (.bool (decide (z < 0)))).setCell ⟨w.heap.size, 1, none⟩ (.slice p n c)).cell? ⟨w.heap.size, 1, none⟩ = some (.slice p n c) ∧
        ∃ u z', u = .agg #[.bool (decide (z < 0)), .slice p n c] ∧ IntAt ((wf.setCell ⟨w.heap.size, 0, none⟩ (.bool (decide (z < 0)))).setCell ⟨w.heap.size, 1, none⟩ (.slice p n c)) u z' ∧ sz W z'.natAbs ≤ 8 ∧ TpIn W0 ((wf.setCell ⟨w.heap.size, 0, none⟩ (.bool (decide (z < 0)))).setCell ⟨w.heap.size, 1, none⟩ (.slice p n c)) t v l ∧ MkFr w ((wf.setCell ⟨w.heap.size, 0, none⟩ (.bool (decide (z < 0)))).setCell ⟨w.heap.size, 1, none⟩ (.slice p n c)) := by
    intro wf z hz ⟨p, n, c, x1, x2⟩ hr ht hf
    obtain ⟨q0, q1, -, -⟩ := two_cells x1
    obtain ⟨r0, r1, f0, f1⟩ := two_cells hr
    obtain ⟨s0, s1, -, -⟩ := two_cells (set2_same hr (.bool (decide (z < 0))) (.slice p n c))
    obtain ⟨sx, hsx, ha⟩ := x2
    have hsx : sx = .slice p n c := by simpa using hsx.symm
    subst hsx
    have e1 : (wf.setCell ⟨w.heap.size, 0, none⟩ (.bool (decide (z < 0)))).heap[w.heap.size]? = some (.cells #[.bool (decide (z < 0)), .slice none 0 0] 37 (0, 0)) := by simpa using heap_setCell_same wf w.heap.size 0 _ _ (.bool (decide (z < 0))) hr
    exact ⟨p, n, c, q0, q1, r0, r1, f0, f1, s0, s1, _, z, rfl, ⟨_, rfl, (ha.offRec hr (by simp [noWord]) 0 _).offRec e1 (by simp [noWord]) 1 _⟩, hz, (ht.set (p := ⟨w.heap.size, 0, none⟩) hWw (by show w.heap.size ≠ t; omega) _).set (p := ⟨w.heap.size, 1, none⟩) hWw (by show w.heap.size ≠ t; omega) _, (hf.setNew (p := ⟨w.heap.size, 0, none⟩) (Nat.le_refl _) _).setNew (p := ⟨w.heap.size, 1, none⟩) (Nat.le_refl _) _⟩
  have Fin := hid fin
  clear fin
  by_cases hc : k2 = 1
  case neg =>
    have hc1 : ((k2 : Int) == 1) = false := by simp; omega
    have hc2 : (k2 == 1) = false := by simp; omega
    obtain ⟨p, n, c, q0, q1, r0, r1, f0, f1, s0, s1, hfin⟩ := Fin.out w4 _ (by omega) X4.out R4.out H4.out F4.out
    have Hf := hid hfin
    clear hfin
    go_wp2
    refine bodyPost_ret (v := .agg #[.bool (decide ((k : Int) - 4 < 0)), .slice p n c]) (by simp [results, Tryd.results63, go_sem, s0, s1]) rfl ?_
    obtain ⟨u, z', rfl, h⟩ := Hf.out
    exact ⟨_, z', rfl, h⟩
  case pos =>
    subst hc
    go_wp2_with fail
    refine (ROf_any 1000000007 w4 (by omega) (by omega)).mono ?_
    rintro e w5 ⟨u5, rfl, i5, b5⟩
    obtain ⟨p5, n5, c5, rfl, i5⟩ := i5.shape
    have X5 := hid (X4.out.go b5)
    have R5 := hid ((b5.block w.heap.size (by omega)).trans R4.out)
    have F5 := hid (F4.out.trans (MkFr.of_below b5))
    have H5 := hid (H4.out.go b5)
    have I5 := hid i5
    have hz5 := b5.size
    clear b5 i5 X4 R4 F4 H4
    go_wp2_with fail
    refine (Next_in 200 H5.out (by decide)).mono ?_
    rintro e w6 ⟨k6, rfl, hk6, h6, hA6⟩
    have hk200 : (k6 : Int) < 200 := by omega
    have X6 := hid (H5.out.box X5.out (by omega) hA6)
    have R6 := hid ((hA6.block w.heap.size (by omega) (by omega)).trans R5.out)
    have F6 := hid (F5.out.trans (H5.out.fr hA6))
    have I6 := hid (H5.out.int I5.out hA6)
    have H6 := hid h6
    have hz6 := hA6.size
    clear hA6 h6 hk6 X5 R5 F5 H5 I5
    go_wp2_with fail
    refine (ROf_any ((k6 : Int) - 100) w6 (by omega) (by omega)).mono ?_
    rintro e w7 ⟨u7, rfl, i7, b7⟩
    obtain ⟨p7, n7, c7, rfl, i7⟩ := i7.shape
    have s5 : sz W (1000000007 : Int).natAbs ≤ 1 := sz_le_of_lt W2 (by unfold W; decide)
    have s7 : sz W ((k6 : Int) - 100).natAbs ≤ 1 := sz_le_of_lt W2 (by unfold W; omega)
    have Hm8 := hid (RMul_any _ _ 1000000007 ((k6 : Int) - 100) w7 ((I6.out.below' b7).raw (by omega)) (i7.raw (by omega)) (by omega) (by omega))
    have X7 := hid (X6.out.go b7)
    have R7 := hid ((b7.block w.heap.size (by omega)).trans R6.out)
    have F7 := hid (F6.out.trans (MkFr.of_below b7))
    have H7 := hid (H6.out.go b7)
    have hz7 := b7.size
    clear b7 i7 X6 R6 F6 H6 I6
    go_wp2_with fail
    refine Hm8.out.mono ?_
    rintro e w8 ⟨u8, rfl, i8, b8⟩
    obtain ⟨z8, hz8⟩ : ∃ z8 : Int, z8 = 1000000007 * ((k6 : Int) - 100) := ⟨_, rfl⟩
    rw [← hz8] at i8
    have s8 : sz W z8.natAbs ≤ 1 := sz_le_of_lt W2 (by unfold W; omega)
    obtain ⟨p8, n8, c8, rfl, i8⟩ := i8.shape
    have X8 := hid (X7.out.go b8)
    have R8 := hid ((b8.block w.heap.size (by omega)).trans R7.out)
    have F8 := hid (F7.out.trans (MkFr.of_below b8))
    have H8 := hid (H7.out.go b8)
    have hs8 := b8.size
    clear b8 X7 R7 F7 H7 Hm8 hz8
    have x8 := X8.out
    obtain ⟨p', n', c', x8, -⟩ := x8
    have q := two_cells x8
    obtain ⟨q0, q1, f0, f1⟩ := q
    have hX : w.heap.size ≤ w2.heap.size := by omega
    have X9 := hid (X8.out.set i8)
    have R9 := hid ((Below.heap_setCell (w8.setCell ⟨w2.heap.size, 0, none⟩ (.bool (decide (z8 < 0)))) ⟨w2.heap.size, 1, none⟩ (.slice p8 n8 c8) w.heap.size (by show w.heap.size ≠ w2.heap.size; omega)).trans ((Below.heap_setCell w8 ⟨w2.heap.size, 0, none⟩ (.bool (decide (z8 < 0))) w.heap.size (by show w.heap.size ≠ w2.heap.size; omega)).trans R8.out))
    have F9 := hid ((F8.out.setNew (p := ⟨w2.heap.size, 0, none⟩) hX (.bool (decide (z8 < 0)))).setNew (p := ⟨w2.heap.size, 1, none⟩) hX (.slice p8 n8 c8))
    have H9 := hid ((H8.out.set (p := ⟨w2.heap.size, 0, none⟩) (by show _ ≤ w2.heap.size; omega) (by show w2.heap.size ≠ t; omega) (.bool (decide (z8 < 0)))).set (p := ⟨w2.heap.size, 1, none⟩) (by show _ ≤ w2.heap.size; omega) (by show w2.heap.size ≠ t; omega) (.slice p8 n8 c8))
    have hs9 : w8.heap.size ≤ ((w8.setCell ⟨w2.heap.size, 0, none⟩ (.bool (decide (z8 < 0)))).setCell ⟨w2.heap.size, 1, none⟩ (.slice p8 n8 c8)).heap.size := by simp [World.setCell]
    clear x8 i8 X8 R8 F8 H8
    go_upto_region 4 with fail
    generalize hW : ((w8.setCell ⟨w2.heap.size, 0, none⟩ (.bool (decide (z8 < 0)))).setCell ⟨w2.heap.size, 1, none⟩ (.slice p8 n8 c8)) = w9 at *
    clear hW q0 q1 f0 f1
    have x9 := X9.out
    obtain ⟨p9, n9, c9, x9, i9⟩ := x9
    have q := two_cells x9
    obtain ⟨q0, q1, f0, f1⟩ := q
    have Hm10 := hid (RMul_any _ _ z8 z8 w9 (i9.raw (by omega)) (i9.raw (by omega)) (by omega) (by omega))
    clear x9 i9
    go_wp2_with fail
    refine Hm10.out.mono ?_
    rintro e w10 ⟨u10, rfl, i10, b10⟩
    have s10 : sz W (z8 * z8).natAbs ≤ 8 := by rw [Int.natAbs_mul]; have := sz_mul W2 z8.natAbs z8.natAbs; omega
    generalize z8 * z8 = z10 at *
    obtain ⟨p10, n10, c10, rfl, i10⟩ := i10.shape
    have X10 := hid (X9.out.go b10)
    have R10 := hid ((b10.block w.heap.size (by omega)).trans R9.out)
    have F10 := hid (F9.out.trans (MkFr.of_below b10))
    have H10 := hid (H9.out.go b10)
    have hs10 := b10.size
    clear b10 X9 R9 F9 H9 Hm10 q0 q1 f0 f1
    have x10 := X10.out
    obtain ⟨p', n', c', x10, -⟩ := x10
    have q := two_cells x10
    obtain ⟨q0, q1, f0, f1⟩ := q
    have X11 := hid (X10.out.set i10)
    have R11 := hid ((Below.heap_setCell (w10.setCell ⟨w2.heap.size, 0, none⟩ (.bool (decide (z10 < 0)))) ⟨w2.heap.size, 1, none⟩ (.slice p10 n10 c10) w.heap.size (by show w.heap.size ≠ w2.heap.size; omega)).trans ((Below.heap_setCell w10 ⟨w2.heap.size, 0, none⟩ (.bool (decide (z10 < 0))) w.heap.size (by show w.heap.size ≠ w2.heap.size; omega)).trans R10.out))
    have F11 := hid ((F10.out.setNew (p := ⟨w2.heap.size, 0, none⟩) hX (.bool (decide (z10 < 0)))).setNew (p := ⟨w2.heap.size, 1, none⟩) hX (.slice p10 n10 c10))
    have H11 := hid ((H10.out.set (p := ⟨w2.heap.size, 0, none⟩) (by show _ ≤ w2.heap.size; omega) (by show w2.heap.size ≠ t; omega) (.bool (decide (z10 < 0)))).set (p := ⟨w2.heap.size, 1, none⟩) (by show _ ≤ w2.heap.size; omega) (by show w2.heap.size ≠ t; omega) (.slice p10 n10 c10))
    clear x10 i10 X10 R10 F10 H10
    go_upto_region 5 with fail
    generalize hW : ((w10.setCell ⟨w2.heap.size, 0, none⟩ (.bool (decide (z10 < 0)))).setCell ⟨w2.heap.size, 1, none⟩ (.slice p10 n10 c10)) = w11 at *
    clear hW q0 q1 f0 f1
    obtain ⟨p, n, c, q0, q1, r0, r1, f0, f1, s0, s1, hfin⟩ := Fin.out w11 _ (by omega) X11.out R11.out H11.out F11.out
    have Hf := hid hfin
    clear hfin
    go_wp2
    refine bodyPost_ret (v := .agg #[.bool (decide (z10 < 0)), .slice p n c]) (by simp [results, Tryd.results63, go_sem, s0, s1]) rfl ?_
    obtain ⟨u, z', rfl, h⟩ := Hf.out
    exact ⟨_, z', rfl, h⟩
end Go.Proofs.YthheafjilbeddaaDoor
