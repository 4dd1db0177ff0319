/- Texts put together: PlSame2, OpenNum, PlFixed, PlOpen, PlOpen2, PlAgain, Laid. -/
import Derived.Test.YtmdkfpidohcafaaDoorPoolAgainCardM2
import Derived.Lib.SmallJoins
import Derived.ChangeSlices
import Derived.OpenShut
import Derived.Carry
import Derived.Deep.DeepHandedRow
import Derived.ProofKit
import Derived.ChangeSame
import Derived.SizedLaws
import Derived.Test.YtmdkfpidohcafaaDoorCards
import Derived.Test.YtmdkfpidohcafaaDoorTie
import Derived.WalkKit
import Derived.Lib.LaidTab
/- elenchusref04.SameRows of rows that are the same. -/
namespace Go.Proofs.YtmdkfpidohcafaaDoor
open Go.RowKit Big Go.WideMaps

set_option maxRecDepth 100000 in
set_option maxHeartbeats 25600000 in
theorem SameRows_true (va vb : Value) (s : List Sy) (l : List Tm) (w : World) (ha : RwIn w va s l) (hb : RwIn w vb s l) (hsz : ∀ x ∈ l, sz W x.num.natAbs ≤ 549755813888) :
    Calls Tryd.prog 18 #[va, vb] w (RBool true w) := by
  obtain ⟨a0, a1, rfl, ⟨pa, ca, rfl, i1, i2, -, i4⟩, hta⟩ := ha
  obtain ⟨b0, b1, rfl, ⟨pc, cc, rfl, k1, k2, -, k4⟩, htb⟩ := hb
  have Hta := hid hta; have Htb := hid htb
  obtain ⟨pb, cb, rfl, b1, b2, -, -⟩ := hta
  obtain ⟨pd, cd, rfl, -, d2, -, -⟩ := htb
  have Hi := hid i4; have Hk := hid k4; have Hsz := hid hsz
  unfold maxLen at i2 k2 b2 d2
  have bx := below1 w (.cells #[.slice pa s.length ca, .slice pb l.length cb] 27)
  have hx0 := heap_alloc_new w (.cells #[.slice pa s.length ca, .slice pb l.length cb] 27)
  have hz := size_alloc w (.cells #[.slice pa s.length ca, .slice pb l.length cb] 27)
  have by_ := below1 (w.alloc (.cells #[.slice pa s.length ca, .slice pb l.length cb] 27)) (.cells #[.slice pc s.length cc, .slice pd l.length cd] 27)
  have hy0 := heap_alloc_new (w.alloc (.cells #[.slice pa s.length ca, .slice pb l.length cb] 27)) (.cells #[.slice pc s.length cc, .slice pd l.length cd] 27)
  have hz2 := size_alloc (w.alloc (.cells #[.slice pa s.length ca, .slice pb l.length cb] 27)) (.cells #[.slice pc s.length cc, .slice pd l.length cd] 27)
  rw [hz] at hy0 hz2
  have hx1 := (by_.block w.heap.size (by omega)).trans hx0
  have bw := bel_go by_ bx
  clear i4 k4 hsz bx hx0 by_
  go_enter Tryd.func18, Tryd.ntmps18
  go_upto_region 1 with fail
  generalize hW : ((w.alloc (.cells #[.slice pa s.length ca, .slice pb l.length cb] 27)).alloc (.cells #[.slice pc s.length cc, .slice pd l.length cd] 27)) = W2 at *
  clear hW hz
  have HZ : Hid (∀ w', Below W2.heap.size W2 w' → w'.cell? ⟨w.heap.size, 0, none⟩ = some (.slice pa s.length ca) ∧ w'.cell? ⟨w.heap.size, 1, none⟩ = some (.slice pb l.length cb) ∧ w'.cell? ⟨w.heap.size + 1, 0, none⟩ = some (.slice pc s.length cc) ∧ w'.cell? ⟨w.heap.size + 1, 1, none⟩ = some (.slice pd l.length cd)) := hid fun w' hb =>
    ⟨(two_cells ((hb.block w.heap.size (by omega)).trans hx1)).1, (two_cells ((hb.block w.heap.size (by omega)).trans hx1)).2.1, (two_cells ((hb.block (w.heap.size + 1) (by omega)).trans hy0)).1, (two_cells ((hb.block (w.heap.size + 1) (by omega)).trans hy0)).2.1⟩
  have HBw := hid bw
  clear hx1 hy0 bw hz2
  obtain ⟨z0, z1, y0, y1⟩ := HZ.out W2 (Below.refl _ _)
  go_wp2_with fail
  clear z0 z1 y0 y1
  go_loopw [26] (fun i wr => ∃ k : Nat, k ≤ s.length ∧ i = .int .i64 (k : Nat) ∧ Hid (Below W2.heap.size W2 wr)) (fun i _ => s.length - (intOf i).toNat)
  case atStart => exact ⟨0, Nat.zero_le _, rfl, hid (Below.refl _ _)⟩
  case round =>
    obtain ⟨k, hk, rfl, Hb⟩ := hrel
    have Hbw := hid (bel_go Hb.out HBw.out)
    obtain ⟨z0, z1, y0, y1⟩ := HZ.out wr Hb.out
    by_cases hlt : k < s.length
    · have hlt' : (k : Int) < (s.length : Nat) := by omega
      obtain ⟨bb, off, rfl, j1, j2⟩ := Hi.out (by omega)
      obtain ⟨bc, off', rfl, o1, o2⟩ := Hk.out (by omega)
      obtain ⟨m0, m1, m2⟩ := j2 k hlt
      obtain ⟨n0, n1, n2⟩ := o2 k hlt
      have m0 := (Hbw.out.cell (p := ⟨bb, off + k * 3, none⟩) j1).trans m0
      have m1 := (Hbw.out.cell (p := ⟨bb, off + k * 3 + 1, none⟩) j1).trans m1
      have m2 := (Hbw.out.cell (p := ⟨bb, off + k * 3 + 2, none⟩) j1).trans m2
      have n0 := (Hbw.out.cell (p := ⟨bc, off' + k * 3, none⟩) o1).trans n0
      have n1 := (Hbw.out.cell (p := ⟨bc, off' + k * 3 + 1, none⟩) o1).trans n1
      have n2 := (Hbw.out.cell (p := ⟨bc, off' + k * 3 + 2, none⟩) o1).trans n2
      generalize s[k].name = nm at *
      generalize s[k].arity = ar at *
      generalize s[k].sort = so at *
      clear j2 o2 Hi Hk
      go_wp2_with fail
      go_quiet (fail)
      go_wp2
      go_roundw
      case rel => exact ⟨k + 1, by omega, rfl, hid (below_drewN Hb.out _)⟩
      case measure => simp [intOf]; omega
    · have hkk : k = s.length := by omega
      subst hkk
      go_wp2_with fail
      clear z0 z1 y0 y1
      go_loopw [44] (fun i wr => ∃ k : Nat, k ≤ l.length ∧ i = .int .i64 (k : Nat) ∧ Hid (Below W2.heap.size W2 wr)) (fun i _ => l.length - (intOf i).toNat)
      case atStart => exact ⟨0, Nat.zero_le _, rfl, Hb⟩
      case round =>
      clear Hb Hbw
      obtain ⟨k, hk, rfl, Hb⟩ := hrel
      have Hbw := hid (bel_go Hb.out HBw.out)
      by_cases hlt : k < l.length
      case neg =>
        have hkk : k = l.length := by omega
        subst hkk
        go_wp2_with fail
        go_ret
        exact ⟨rfl, Hbw.out⟩
      case pos =>
      have hlt' : (k : Int) < (l.length : Nat) := by omega
      obtain ⟨_, _, e5, -, -, -, hc⟩ := Hta.out
      obtain ⟨_, _, e6, -, -, -, hd⟩ := Htb.out
      cases e5; cases e6
      obtain ⟨bb, off, rfl, j1, j2⟩ := hc (by omega)
      obtain ⟨bc, off', rfl, o1, o2⟩ := hd (by omega)
      obtain ⟨c0, c1, c2, c3, c4, m0, m1, m2, m3, m4, hra⟩ := j2 k hlt
      obtain ⟨d0, d1, d2', d3, d4, n0, n1, n2, n3, n4, hrb⟩ := o2 k hlt
      have hszx := Hsz.out l[k] (List.getElem_mem hlt)
      generalize l[k] = x at *
      have hsame := fun W (hw : Below wr.heap.size wr W) => RefSame_any x x _ _ W (hra.below (bel_go hw Hbw.out)) (hrb.below (bel_go hw Hbw.out)) hszx hszx
      obtain ⟨pe, ce, b, pm, nm, cm, ea, -, -⟩ := hra
      have ea' := agg5 ea
      obtain ⟨rfl, rfl, rfl, rfl, rfl⟩ := ea'
      obtain ⟨pe', ce', b', pm', nm', cm', eb, -, -⟩ := hrb
      have eb' := agg5 eb
      obtain ⟨rfl, rfl, rfl, rfl, rfl⟩ := eb'
      have Hsame := hid hsame
      have HS : Hid (∀ w', Below wr.heap.size wr w' → (w'.cell? ⟨w.heap.size, 0, none⟩ = some (.slice pa l.length ca) ∨ True) ∧ w'.cell? ⟨w.heap.size, 1, none⟩ = some (.slice (some ⟨bb, off, none⟩) l.length cb) ∧ w'.cell? ⟨w.heap.size + 1, 1, none⟩ = some (.slice (some ⟨bc, off', none⟩) l.length cd) ∧
          (w'.cell? ⟨bb, off + k * 5, none⟩ = some (.int .i64 x.op) ∧ w'.cell? ⟨bb, off + k * 5 + 1, none⟩ = some (.slice pe x.args.length ce) ∧ w'.cell? ⟨bb, off + k * 5 + 2, none⟩ = some (.bool b) ∧ w'.cell? ⟨bb, off + k * 5 + 3, none⟩ = some (.slice pm nm cm) ∧ w'.cell? ⟨bb, off + k * 5 + 4, none⟩ = some (.int .i64 x.sym)) ∧
          (w'.cell? ⟨bc, off' + k * 5, none⟩ = some (.int .i64 x.op) ∧ w'.cell? ⟨bc, off' + k * 5 + 1, none⟩ = some (.slice pe' x.args.length ce') ∧ w'.cell? ⟨bc, off' + k * 5 + 2, none⟩ = some (.bool b') ∧ w'.cell? ⟨bc, off' + k * 5 + 3, none⟩ = some (.slice pm' nm' cm') ∧ w'.cell? ⟨bc, off' + k * 5 + 4, none⟩ = some (.int .i64 x.sym))) := hid fun w' hb => by
        have h1 := bel_go hb Hbw.out
        have h2 := HZ.out w' (bel_go hb Hb.out)
        have ca' : ∀ o, w'.cell? ⟨bb, o, none⟩ = w.cell? ⟨bb, o, none⟩ := fun o => h1.cell (p := ⟨bb, o, none⟩) j1
        have cb' : ∀ o, w'.cell? ⟨bc, o, none⟩ = w.cell? ⟨bc, o, none⟩ := fun o => h1.cell (p := ⟨bc, o, none⟩) o1
        exact ⟨.inr trivial, h2.2.1, h2.2.2.2, ⟨(ca' _).trans m0, (ca' _).trans m1, (ca' _).trans m2, (ca' _).trans m3, (ca' _).trans m4⟩, ⟨(cb' _).trans n0, (cb' _).trans n1, (cb' _).trans n2, (cb' _).trans n3, (cb' _).trans n4⟩⟩
      clear hc hd j2 o2 m0 m1 m2 m3 m4 n0 n1 n2 n3 n4 hsame hszx ea eb Hta Htb Hi Hk Hsz
      go_upto_region 12 with fail
      refine wp_region_facts (w0 := wr) 12 0 [47, 48, 49, 50, 51, 52, 53, 54, 55, 56, 57, 58] [u47, u48, u49, u50, u51, u52, u53, u54, u55, u56, u57, u58]
        (fun i => match i with | 0 => eqD (.pointer (some ⟨w.heap.size, 1, none⟩)) | 1 => eqD (.slice (some ⟨bb, off, none⟩) l.length cb) | 2 => eqD (.int .i64 (k : Nat)) | 3 => eqD (.pointer (some ⟨bb, off + k * 5, none⟩)) | 4 => eqD (.agg #[.int .i64 x.op, .slice pe x.args.length ce, .bool b, .slice pm nm cm, .int .i64 x.sym]) | 5 => eqD (.pointer (some ⟨w.heap.size + 1, 1, none⟩)) | 6 => eqD (.slice (some ⟨bc, off', none⟩) l.length cd) | 7 => eqD (.int .i64 (k : Nat)) | 8 => eqD (.pointer (some ⟨bc, off' + k * 5, none⟩)) | 9 => eqD (.agg #[.int .i64 x.op, .slice pe' x.args.length ce', .bool b', .slice pm' nm' cm', .int .i64 x.sym]) | 10 => eqD (.bool true) | _ => eqD (.bool false)) [] (by kernel_rfl) (by kernel_rfl) (by kernel_rfl) (by kernel_rfl) (by decide) rfl (by kernel_rfl) rfl (by simp) ?he1 ?_ ?_ ?_
      case he1 => simp only [putAll, Act.put, List.setIfInBounds_toArray, List.set_cons_zero, List.set_cons_succ]
      · intro i hi; simp at hi
      · intro i o hi ho vs wx hvl hb hdep K hK
        have hvs := vlen12 hvl
        obtain ⟨s47, s48, s49, s50, s51, s52, s53, s54, s55, s56, s57, s58, rfl⟩ := hvs
        clear hvl
        have hk := HS.out wx hb
        go_split_ands
        rcases i with _ | _ | _ | _ | _ | _ | _ | _ | _ | _ | _ | _ | i
        all_goals (simp only [List.getElem?_toArray, List.getElem?_cons_zero, List.getElem?_cons_succ, Option.some.injEq] at ho)
        all_goals try (subst ho)
        all_goals try simp only [putAll, Act.put, List.setIfInBounds_toArray, List.set_cons_zero, List.set_cons_succ]
        · go_simp
          have hK' := hK.out
          simp only [putAll, Act.put, List.setIfInBounds_toArray, List.set_cons_zero, List.set_cons_succ] at hK'
          exact hK' _ _ rfl (Below.refl _ _) (by simp)
        · have e0 : s47 = _ := hdep ⟨0, .data⟩ (by simp) rfl
          have e0 := e0.symm
          subst e0
          go_simp
          have hK' := hK.out
          simp only [putAll, Act.put, List.setIfInBounds_toArray, List.set_cons_zero, List.set_cons_succ] at hK'
          exact hK' _ _ rfl (Below.refl _ _) (by simp)
        · go_simp
          have hK' := hK.out
          simp only [putAll, Act.put, List.setIfInBounds_toArray, List.set_cons_zero, List.set_cons_succ] at hK'
          exact hK' _ _ rfl (Below.refl _ _) (by simp)
        · have e1 : s48 = _ := hdep ⟨1, .data⟩ (by simp) rfl
          have e1 := e1.symm
          subst e1
          have e2 : s49 = _ := hdep ⟨2, .data⟩ (by simp) rfl
          have e2 := e2.symm
          subst e2
          go_simp
          have hK' := hK.out
          simp only [putAll, Act.put, List.setIfInBounds_toArray, List.set_cons_zero, List.set_cons_succ] at hK'
          exact hK' _ _ rfl (Below.refl _ _) (by simp)
        · have e3 : s50 = _ := hdep ⟨3, .data⟩ (by simp) rfl
          have e3 := e3.symm
          subst e3
          go_simp
          have hK' := hK.out
          simp only [putAll, Act.put, List.setIfInBounds_toArray, List.set_cons_zero, List.set_cons_succ] at hK'
          exact hK' _ _ rfl (Below.refl _ _) (by simp)
        · go_simp
          have hK' := hK.out
          simp only [putAll, Act.put, List.setIfInBounds_toArray, List.set_cons_zero, List.set_cons_succ] at hK'
          exact hK' _ _ rfl (Below.refl _ _) (by simp)
        · have e5 : s52 = _ := hdep ⟨5, .data⟩ (by simp) rfl
          have e5 := e5.symm
          subst e5
          go_simp
          have hK' := hK.out
          simp only [putAll, Act.put, List.setIfInBounds_toArray, List.set_cons_zero, List.set_cons_succ] at hK'
          exact hK' _ _ rfl (Below.refl _ _) (by simp)
        · go_simp
          have hK' := hK.out
          simp only [putAll, Act.put, List.setIfInBounds_toArray, List.set_cons_zero, List.set_cons_succ] at hK'
          exact hK' _ _ rfl (Below.refl _ _) (by simp)
        · have e6 : s53 = _ := hdep ⟨6, .data⟩ (by simp) rfl
          have e6 := e6.symm
          subst e6
          have e7 : s54 = _ := hdep ⟨7, .data⟩ (by simp) rfl
          have e7 := e7.symm
          subst e7
          go_simp
          have hK' := hK.out
          simp only [putAll, Act.put, List.setIfInBounds_toArray, List.set_cons_zero, List.set_cons_succ] at hK'
          exact hK' _ _ rfl (Below.refl _ _) (by simp)
        · have e8 : s55 = _ := hdep ⟨8, .data⟩ (by simp) rfl
          have e8 := e8.symm
          subst e8
          go_simp
          have hK' := hK.out
          simp only [putAll, Act.put, List.setIfInBounds_toArray, List.set_cons_zero, List.set_cons_succ] at hK'
          exact hK' _ _ rfl (Below.refl _ _) (by simp)
        · have e4 : s51 = _ := hdep ⟨4, .data⟩ (by simp) rfl
          have e4 := e4.symm
          subst e4
          have e9 : s56 = _ := hdep ⟨9, .data⟩ (by simp) rfl
          have e9 := e9.symm
          subst e9
          go_simp
          go_simp
          refine (Hsame.out _ hb).mono ?_
          rintro e wy ⟨rfl, hby⟩
          go_wp2_with fail
          have hK' := hK.out
          simp only [putAll, Act.put, List.setIfInBounds_toArray, List.set_cons_zero, List.set_cons_succ] at hK'
          exact hK' _ _ rfl hby (by simp)
        · have e10 : s57 = _ := hdep ⟨10, .data⟩ (by simp) rfl
          have e10 := e10.symm
          subst e10
          go_simp
          have hK' := hK.out
          simp only [putAll, Act.put, List.setIfInBounds_toArray, List.set_cons_zero, List.set_cons_succ] at hK'
          exact hK' _ _ rfl (Below.refl _ _) (by simp)
        · omega
      · intro vs wx hvl hb hf hdist
        have hvs := vlen12 hvl
        obtain ⟨s47, s48, s49, s50, s51, s52, s53, s54, s55, s56, s57, s58, rfl⟩ := hvs
        have f11 : s58 = .bool false := hf 11 (by decide)
        subst f11
        clear hf hdist hvl
        refine wpAny_done (by kernel_rfl) ?_ _
        simp only [putAll, Act.put, List.setIfInBounds_toArray, List.set_cons_zero, List.set_cons_succ]
        have Hb9 := hid (Hb.out.trans (hb.mono Hb.out.size))
        clear Hb Hbw hb HS
        go_wp2_with fail
        go_roundw
        case rel => exact ⟨k + 1, by omega, rfl, Hb9⟩
        case measure => simp [intOf]; omega
end Go.Proofs.YtmdkfpidohcafaaDoor
/- A number that comes in as data: a bool and a slice of words; how it reads. -/
namespace Go.Proofs.YtmdkfpidohcafaaDoor
open Go.ChangeShapes Go.WideShapes Go.ChangeAt Go.RowKit Go.Deep Go.Joins Big

theorem laidOut : laidOutB Tryd.prog = true := by kernel_rfl
theorem fieldsInt : ∃ f0 f1 : Field, Tryd.prog.underlying 37 = some (.struct #[f0, f1]) ∧ oneCellFields Tryd.prog #[f0, f1] = true ∧ f0.type = 4 ∧ f1.type = 35 := ⟨_, _, Tryd.underlying37, by kernel_rfl, rfl, rfl⟩
theorem cellsInt : Tryd.prog.cellsOf 37 = 2 := by kernel_rfl
theorem cellsU64 : Tryd.prog.cellsOf 98 = 1 := by kernel_rfl

section
variable {H : Type} {enc : TypeId × Value → H} {w : World} {base : Nat} {spare : Nat → Bool} {held : Bool}
theorem wf_u64 {n : Int} (h : (Lit.int .u64 n).wf = true) : 0 ≤ n ∧ n < (W : Int) := by
  have h' : (decide (IntKind.u64.min ≤ n) && decide (n ≤ IntKind.u64.max)) = true := h
  have e1 : IntKind.u64.min = 0 := by decide
  have e2 : IntKind.u64.max = 18446744073709551615 := by decide
  rw [e1, e2] at h'
  simp only [Bool.and_eq_true, decide_eq_true_eq] at h'
  unfold W
  omega
/-- a slice of words that comes in -/
theorem open_nat {fuel : Nat} {v : Value} {y : DataW H × List MemPlace} (h : DataW.trod enc Tryd.prog w base spare held fuel 35 [v] = some y) : ∃ l, At w .u64 v l ∧ Small W l := by
  rcases open_ints Tryd.underlying35 Tryd.underlying98 cellsU64 h with ⟨hv, -⟩ | ⟨a, len, cap, zs, hv, hb, hl, hm, hz, -, hc, hwf⟩
  · obtain rfl : v = .slice none 0 0 := by simpa using hv
    exact ⟨[], At.nil w .u64, fun n hn => by cases hn⟩
  · obtain rfl : v = .slice (some a) len cap := by simpa using hv
    have hlz : len ≤ zs.length := by rw [hz]; split <;> omega
    refine ⟨(zs.take len).map Int.toNat, ?_, ?_⟩
    · have e : ((zs.take len).map Int.toNat).length = len := by simp [Nat.min_eq_left hlz]
      refine ⟨some a, cap, by rw [e], by rw [e]; exact hl, hm, nofun, fun h0 => ?_⟩
      rw [e] at h0
      have hs := hc 0 (by omega)
      obtain ⟨b, off, spot⟩ := a
      cases spot with
      | some x =>
        exfalso
        revert hs
        unfold World.cell? Addr.add
        split <;> simp
      | none =>
        refine ⟨b, off, rfl, ?_, fun i hi => ?_⟩
        · exact World.block_lt_of_cell? w _ hs
        · rw [e] at hi
          have hci := hc i (by omega)
          have hw := wf_u64 (hwf _ (List.getElem_mem (n := i) (l := zs) (by omega)))
          rw [add_plain] at hci
          rw [hci]
          have hg : zs.getD i 0 = zs[i]'(by omega) := by simp [List.getD, show i < zs.length by omega]
          rw [hg]
          simp only [List.getElem_map, List.getElem_take]
          congr 2
          omega
    · intro n hn
      obtain ⟨x, hx, rfl⟩ := List.mem_map.1 hn
      have hw := wf_u64 (hwf x (List.mem_of_mem_take hx))
      omega
set_option maxRecDepth 100000 in
/-- a number that comes in -/
theorem open_num {r : Reach} {b0 : Nat} {v : Value} {d : DataW H} {p : List MemPlace} (hv : Value.okWide Tryd.prog w r b0 37 v) (h : DataW.Trod enc Tryd.prog w base spare held 37 v d p) :
    ∃ neg s l, v = .agg #[.bool neg, s] ∧ At w .u64 s l ∧ Small W l := by
  obtain ⟨f0, f1, hs, hone, e0, e1⟩ := fieldsInt
  obtain ⟨v0, v1, y0, y1, n, rfl, -, -, h0, h1⟩ := open_agg2 hs hone cellsInt hv h
  rw [e0] at h0
  rw [e1] at h1
  obtain ⟨b, hb, -⟩ := DataW.trod_bool Tryd.underlying4 h0
  obtain ⟨l, ha, hl⟩ := open_nat h1
  obtain rfl : v0 = .bool b := by simpa using hb
  exact ⟨b, v1, l, rfl, ha, hl⟩
end
end Go.Proofs.YtmdkfpidohcafaaDoor
/- elenchuslaw04.fixed; PoolNil. -/
namespace Go.Proofs.YtmdkfpidohcafaaDoor
open Go.RowKit Big Go.WideMaps

theorem zeroRaw (w : World) : RawAt w (.agg #[.bool false, .slice none 0 0]) 0 := ⟨false, _, [], rfl, At.nil _ _, (fun x hx => by cases hx), by simp, by simp [sg, val]⟩
theorem IAt.two (w : World) (a b : Int) : IAt (w.alloc (.cells #[.int .i64 a, .int .i64 b] 3)) (.slice (some ⟨w.heap.size, 0, none⟩) 2 2) [a, b] :=
  ⟨_, 2, rfl, by simp, by simp [maxLen], fun h => (by cases h), fun _ => ⟨_, 0, rfl, by simp, fun i hi => by
    have h := cells_at (c := [.int .i64 a, .int .i64 b]) (heap_alloc_new w (.cells #[.int .i64 a, .int .i64 b] 3)) i
    rw [Go.WideShapes.add_plain] at h
    match i, hi with
    | 0, _ => exact h _ rfl
    | 1, _ => exact h _ rfl⟩⟩
theorem terms_field0 (pa : Option Addr) (na ca : Nat) (pb : Option Addr) (nb cb : Nat) (w : World) : (Instr.field 27 (.agg #[.slice pa na ca, .slice pb nb cb]) 0).run Tryd.prog w = .ok (.slice pa na ca) w := by kernel_rfl
theorem terms_field1 (pa : Option Addr) (na ca : Nat) (pb : Option Addr) (nb cb : Nat) (w : World) : (Instr.field 27 (.agg #[.slice pa na ca, .slice pb nb cb]) 1).run Tryd.prog w = .ok (.slice pb nb cb) w := by kernel_rfl
def tTrue : Tm := ⟨1, [], 0, 0⟩
def tAnd : Tm := ⟨6, [0, 0], 0, 0⟩
theorem mkTrue : plMake ⟨[], [], []⟩ tTrue = (⟨[], [tTrue], [1]⟩, 0, 0) := by kernel_rfl
theorem mkAnd : plMake ⟨[], [tTrue], [1]⟩ tAnd = (⟨[], [tTrue, tAnd], [1, 1]⟩, 1, 0) := by kernel_rfl
theorem mkAnd2 : plMake ⟨[], [tTrue, tAnd], [1, 1]⟩ tAnd = (⟨[], [tTrue, tAnd], [1, 1]⟩, 1, 0) := by kernel_rfl
theorem SyIn.nil (w : World) : SyIn w (.slice none 0 0) [] := ⟨none, 0, rfl, by simp, by simp [maxLen], fun _ => rfl, fun h => absurd h (by simp)⟩

set_option maxRecDepth 100000 in
set_option maxHeartbeats 6400000 in
theorem fixed_any (B : Nat) (w : World) (hB : B ≤ w.heap.size) (htab : Tb B w) : Calls Tryd.prog 9 #[] w (RBool true w) := by
  have Htab := hid htab
  have Hnew := hid (New_any (.slice none 0 0) [] w (SyIn.nil w) (fun s h => by cases h))
  clear htab
  go_enter Tryd.func9, Tryd.ntmps9
  go_wp2_with fail
  refine Hnew.out.mono ?_
  rintro e w1 ⟨-, hok, b1⟩
  obtain ⟨g, S, rfl, hp, hS⟩ := hok (by decide +kernel)
  have hm := Make_any B S g ⟨[], [], []⟩ tTrue (.agg #[.int .i64 1, .slice none 0 0, .bool false, .slice none 0 0, .int .i64 0]) w1 hp (Nat.le_trans hB b1.size) (Htab.out.on (b1.mono hB)) ⟨none, 0, false, none, 0, 0, rfl, IAt.nil _, zeroRaw _⟩ (by decide)
  rw [mkTrue] at hm
  have Hm := hid hm; have HS := hid hS; have Hb1 := hid b1
  clear hm hok hp hS b1 Hnew
  go_wp2_with fail
  refine Hm.out.mono ?_
  rintro e w2 ⟨rfl, S2, hp2, hS2, hA2⟩
  have b2 : Below w.heap.size w w2 := Hb1.out.trans (hA2.below Hb1.out.size HS.out)
  have hS2' : ∀ k, S2 k → w.heap.size ≤ k := fun k hk => by
    rcases hS2 k hk with h | h
    · exact HS.out k h
    · have := Hb1.out.size; omega
  have b2a := below1 w2 (.cells #[.int .i64 0, .int .i64 0] 3)
  have hm := Make_any B S2 g _ tAnd (.agg #[.int .i64 6, .slice (some ⟨w2.heap.size, 0, none⟩) 2 2, .bool false, .slice none 0 0, .int .i64 0]) _ (hp2.below b2a) (Nat.le_trans hB (Nat.le_trans b2.size b2a.size)) (Htab.out.on ((bel_go b2a b2).mono hB)) ⟨_, _, false, none, 0, 0, rfl, IAt.two w2 0 0, zeroRaw _⟩ (by decide)
  rw [mkAnd] at hm
  have Hm := hid hm; have HS2 := hid hS2'; have Hb2 := hid (bel_go b2a b2)
  clear hm hp2 hS2 hS2' b2 b2a HS Hb1 hA2
  go_wp2_with fail
  refine Hm.out.mono ?_
  rintro e w3 ⟨rfl, S3, hp3, hS3, hA3⟩
  have b3 : Below w.heap.size w w3 := Hb2.out.trans (hA3.below Hb2.out.size HS2.out)
  have hS3' : ∀ k, S3 k → w.heap.size ≤ k := fun k hk => by
    rcases hS3 k hk with h | h
    · exact HS2.out k h
    · have := Hb2.out.size; omega
  have b3a := below1 w3 (.cells #[.int .i64 0, .int .i64 0] 3)
  have hm := Make_any B S3 g _ tAnd (.agg #[.int .i64 6, .slice (some ⟨w3.heap.size, 0, none⟩) 2 2, .bool false, .slice none 0 0, .int .i64 0]) _ (hp3.below b3a) (Nat.le_trans hB (Nat.le_trans b3.size b3a.size)) (Htab.out.on ((bel_go b3a b3).mono hB)) ⟨_, _, false, none, 0, 0, rfl, IAt.two w3 0 0, zeroRaw _⟩ (by decide)
  rw [mkAnd2] at hm
  have Hm := hid hm; have HS3 := hid hS3'; have Hb3 := hid (bel_go b3a b3)
  clear hm hp3 hS3 hS3' b3 b3a HS2 Hb2 hA3
  go_wp2_with fail
  refine Hm.out.mono ?_
  rintro e w4 ⟨rfl, S4, hp4, hS4, hA4⟩
  have b4 : Below w.heap.size w w4 := Hb3.out.trans (hA4.below Hb3.out.size HS3.out)
  have Hr := hid (Rows_any S4 g _ w4 hp4)
  have Hb4 := hid b4
  clear hp4 hS4 hA4 b4 HS3 Hb3
  go_wp2_with fail
  refine Hr.out.mono ?_
  rintro e w5 ⟨v, rfl, hro, b5⟩
  obtain ⟨va, vb, rfl, hsy, cs, hrow, -⟩ := hro
  obtain ⟨pa, ca, rfl⟩ := ownsRow_shape hsy
  obtain ⟨pb, cb, rfl⟩ := ownsRow_shape hrow
  have Hb5 := hid (bel_go b5 Hb4.out)
  clear hrow b5 Hr Hm
  clear hsy
  have hfd := fun w' => terms_field1 pa 0 ca pb 2 cb w'
  go_wp2
  go_ret
  exact ⟨rfl, Hb5.out⟩

set_option maxRecDepth 100000 in
set_option maxHeartbeats 1600000 in
theorem Make_nil2 (op sym : Int) (na nm ca cm : Nat) (pa pm : Option Addr) (b : Bool) (w : World) : Calls Tryd.prog 13 #[.pointer none, .agg #[.int .i64 op, .slice pa na ca, .bool b, .slice pm nm cm, .int .i64 sym]] w (RTwo 0 1 w) := by
  go_enter Tryd.func13, Tryd.ntmps13
  go_wp2
  go_ret2
  exact ⟨rfl, below1 _ _⟩
theorem Rows_none (w : World) : Calls Tryd.prog 19 #[.pointer none] w fun e w' => e = .returned (.agg #[.slice none 0 0, .slice none 0 0]) ∧ Below w.heap.size w w' := Rows_nil w
set_option maxRecDepth 100000 in
set_option maxHeartbeats 6400000 in
theorem lawNil_any (op sym : Int) (na nm ca cm : Nat) (pa pm : Option Addr) (b : Bool) (s : Sy) (k : Int) (w : World) (htab : Tb w.heap.size w) : Calls Tryd.prog 8 #[.agg #[.int .i64 op, .slice pa na ca, .bool b, .slice pm nm cm, .int .i64 sym], s.val, .int .i64 k] w (RBool true w) := by
  have Hd := hid (fun W => Declare_nil s W)
  obtain ⟨nam, ar, so⟩ := s
  have hsv : Sy.val ⟨nam, ar, so⟩ = .agg #[.string ⟨nam.toArray⟩, .int .i64 ar, .int .i64 so] := rfl
  rw [hsv] at Hd ⊢
  have bx := heap_alloc_new w (.cells #[.int .i64 op, .slice pa na ca, .bool b, .slice pm nm cm, .int .i64 sym] 39)
  have b0 := below1 w (.cells #[.int .i64 op, .slice pa na ca, .bool b, .slice pm nm cm, .int .i64 sym] 39)
  have bx' := heap_alloc_new (w.alloc (.cells #[.int .i64 op, .slice pa na ca, .bool b, .slice pm nm cm, .int .i64 sym] 39)) (.cells #[.string ⟨nam.toArray⟩, .int .i64 ar, .int .i64 so] 51)
  have b1 := below1 (w.alloc (.cells #[.int .i64 op, .slice pa na ca, .bool b, .slice pm nm cm, .int .i64 sym] 39)) (.cells #[.string ⟨nam.toArray⟩, .int .i64 ar, .int .i64 so] 51)
  have hs0 := size_alloc w (.cells #[.int .i64 op, .slice pa na ca, .bool b, .slice pm nm cm, .int .i64 sym] 39)
  have hs1 := size_alloc (w.alloc (.cells #[.int .i64 op, .slice pa na ca, .bool b, .slice pm nm cm, .int .i64 sym] 39)) (.cells #[.string ⟨nam.toArray⟩, .int .i64 ar, .int .i64 so] 51)
  have bw1 := bel_go b1 b0
  have hfx := fixed_any w.heap.size _ bw1.size (Lib.TabBelow.on htab bw1)
  rw [hs0] at bx' hs1
  have bx1 := (b1.block w.heap.size (by omega)).trans bx
  have Hfx := hid hfx
  clear htab hsv hfx bx b0 b1
  go_enter Tryd.func8, Tryd.ntmps8
  go_wp2_with fail
  generalize hW : ((w.alloc (.cells #[.int .i64 op, .slice pa na ca, .bool b, .slice pm nm cm, .int .i64 sym] 39)).alloc (.cells #[.string ⟨nam.toArray⟩, .int .i64 ar, .int .i64 so] 51)) = W1 at *
  clear hW hs0
  refine Hfx.out.mono ?_
  rintro e w2 ⟨rfl, b2⟩
  have bw2 := bel_go b2 bw1
  have q := five_cells ((b2.block w.heap.size (by omega)).trans bx1)
  obtain ⟨x0, x1, x2, x3, x4⟩ := q
  have bx2 := (b2.block (w.heap.size + 1) (by omega)).trans bx'
  have hz2 := b2.size
  have Hb2 := hid bw2
  have Hm := hid (Make_nil2 op sym na nm ca cm pa pm b w2)
  clear bw2 b2 bx1 bx' bw1 Hfx
  go_wp2_with fail
  refine Hm.out.mono ?_
  rintro e w3 ⟨rfl, b3⟩
  have bx3 := (b3.block (w.heap.size + 1) (by omega)).trans bx2
  have q := three_cells bx3
  have hz3 := b3.size
  have Hb3 := hid (bel_go b3 Hb2.out)
  obtain ⟨y0, y1, y2⟩ := q
  clear b3 bx3 bx2 x0 x1 x2 x3 x4 Hm Hb2
  go_wp2_with fail
  refine (Hd.out _).mono ?_
  rintro e w4 ⟨rfl, b4⟩
  have Hb4 := hid (bel_go b4 Hb3.out)
  clear b4 y0 y1 y2 Hb3
  go_wp2_with fail
  refine (Sort_nil k _).mono ?_
  rintro e w5 ⟨rfl, b5⟩
  have Hb5 := hid (bel_go b5 Hb4.out)
  clear b5 Hb4
  have hf0 := fun w' => terms_field0 none 0 0 none 0 0 w'
  have hf1 := fun w' => terms_field1 none 0 0 none 0 0 w'
  go_wp2_with fail
  refine (Rows_nil _).mono ?_
  rintro e w6 ⟨rfl, b6⟩
  have Hb6 := hid (bel_go b6 Hb5.out)
  clear b6 Hb5
  go_wp2_with fail
  refine (Rows_nil _).mono ?_
  rintro e w7 ⟨rfl, b7⟩
  have Hb7 := hid (bel_go b7 Hb6.out)
  clear b7 Hb6
  go_wp2
  go_ret
  exact ⟨rfl, Hb7.out⟩
end Go.Proofs.YtmdkfpidohcafaaDoor
/- Terms and symbols that come in as data: how they read. -/
namespace Go.Proofs.YtmdkfpidohcafaaDoor
open Go.ChangeShapes Go.WideShapes Go.ChangeAt Go.RowKit Go.Deep Go.Joins Big

/-- a term as it comes in: its number by sign and words -/
structure Tx where
  op : Int
  args : List Int
  neg : Bool
  words : List Nat
  sym : Int
def Tx.tm (x : Tx) : Tm := ⟨x.op, x.args, sg x.neg (val W x.words), x.sym⟩
def TxAt (w : World) (v : Value) (x : Tx) : Prop := ∃ pa ca pm cm, v = .agg #[.int .i64 x.op, .slice pa x.args.length ca, .bool x.neg, .slice pm x.words.length cm, .int .i64 x.sym] ∧
  IAt w (.slice pa x.args.length ca) x.args ∧ At w .u64 (.slice pm x.words.length cm) x.words ∧ Small W x.words
theorem TxAt.raw {w : World} {v : Value} {x : Tx} (h : TxAt w v x) (hs : x.words.length ≤ 1099511627776) : TmRaw w v x.tm := by
  obtain ⟨pa, ca, pm, cm, rfl, h1, h2, h3⟩ := h
  exact ⟨pa, ca, _, pm, _, cm, rfl, h1, _, _, _, rfl, h2, h3, hs, rfl⟩
theorem TxAt.below {w w' : World} {v : Value} {x : Tx} (h : TxAt w v x) (hb : Below w.heap.size w w') : TxAt w' v x := by
  obtain ⟨pa, ca, pm, cm, rfl, h1, h2, h3⟩ := h
  exact ⟨pa, ca, pm, cm, rfl, h1.below hb, h2.below hb, h3⟩
theorem laidOutP : laidOutB Tryd.prog = true := by kernel_rfl
theorem ownP : ownKnob Tryd.prog.godebug = none := by kernel_rfl
theorem fieldsTerm : ∃ f0 f1 f2 f3 : Field, Tryd.prog.underlying 39 = some (.struct #[f0, f1, f2, f3]) ∧ f0.type = 3 ∧ f1.type = 33 ∧ f2.type = 37 ∧ f3.type = 3 ∧ f0.offset = 0 ∧ f1.offset = 1 ∧ f2.offset = 2 ∧ f3.offset = 4 :=
  ⟨_, _, _, _, Tryd.underlying39, rfl, rfl, rfl, rfl, rfl, rfl, rfl, rfl⟩
theorem fieldsSym : ∃ f0 f1 f2 : Field, Tryd.prog.underlying 51 = some (.struct #[f0, f1, f2]) ∧ f0.type = 9 ∧ f1.type = 3 ∧ f2.type = 3 ∧ f0.offset = 0 ∧ f1.offset = 1 ∧ f2.offset = 2 :=
  ⟨_, _, _, Tryd.underlying51, rfl, rfl, rfl, rfl, rfl, rfl⟩
theorem fieldsIntP : ∃ f0 f1 : Field, Tryd.prog.underlying 37 = some (.struct #[f0, f1]) ∧ f0.type = 4 ∧ f1.type = 35 ∧ f0.offset = 0 ∧ f1.offset = 1 := ⟨_, _, Tryd.underlying37, rfl, rfl, rfl, rfl⟩
theorem cellsTermP : Tryd.prog.cellsOf 39 = 5 := by kernel_rfl
theorem cellsSymP : Tryd.prog.cellsOf 51 = 3 := by kernel_rfl
theorem cellsIntP : Tryd.prog.cellsOf 37 = 2 := by kernel_rfl
theorem cellsNatP : Tryd.prog.cellsOf 35 = 1 := by kernel_rfl
theorem cellsBoolP : Tryd.prog.cellsOf 4 = 1 := by kernel_rfl
theorem cellsIP : Tryd.prog.cellsOf 3 = 1 := by kernel_rfl
theorem cellsSP : Tryd.prog.cellsOf 9 = 1 := by kernel_rfl
theorem cellsIsP : Tryd.prog.cellsOf 33 = 1 := by kernel_rfl
def dataOf {H : Type} : DataW H → List (DataW H)
  | .slice e _ => e
  | _ => []
section
variable {H : Type} {enc : TypeId × Value → H} {w : World} {base : Nat} {spare : Nat → Bool} {held : Bool}
theorem spotless {b off : Nat} {sp : Option _} {v : Value} (h : w.cell? ((⟨b, off, sp⟩ : Addr)) = some v) : sp = none := by
  cases sp with
  | none => rfl
  | some x =>
    exfalso
    revert h
    unfold World.cell?
    split <;> simp
theorem cells_each {a : Addr} {n : Nat} {cs : List Value} (h : w.cells? base a n = some cs) : cs.length = n ∧ ∀ j u, cs[j]? = some u → w.cell? (a.add j) = some u := by
  unfold World.cells? at h
  split at h
  · have hl := mapM_some_length h
    simp at hl
    refine ⟨hl, fun j u hj => ?_⟩
    have hjl : j < n := by
      have := (List.getElem?_eq_some_iff.1 hj).1
      omega
    have := mapM_some_get h j j (by simp [hjl])
    rw [this, hj]
  · cases h
/-- a row of structs that comes in -/
theorem open_rows {α : Type} {t e : TypeId} (size : Nat) (ht : Tryd.prog.underlying t = some (.slice e)) (hsz : Tryd.prog.cellsOf e = size) (hpos : 0 < size) {Q : List Value → α → DataW H → Prop}
    (each : ∀ m cs y, DataW.trod enc Tryd.prog w base spare held m e cs = some y → ∃ x : α, Q cs x y.1) {fuel : Nat} {cs : List Value} {y : DataW H × List MemPlace} (h : DataW.trod enc Tryd.prog w base spare held fuel t cs = some y) :
    ∃ (p : Option Addr) (cap : Nat) (l : List α), cs = [.slice p l.length cap] ∧ l.length ≤ cap ∧ cap ≤ maxLen ∧ (p = none → cap = 0) ∧
      (0 < l.length → ∃ b off, p = some ⟨b, off, none⟩ ∧ b < w.heap.size ∧ ∀ i (h : i < l.length), ∃ c d, c.length = size ∧ (∀ j u, c[j]? = some u → w.cell? ⟨b, off + i * size + j, none⟩ = some u) ∧ Q c l[i] d ∧ d ∈ dataOf y.1) := by
  rcases DataW.trod_slice ht h with ⟨rfl, -⟩ | ⟨a, len, cap, elems, rest, m, rfl, rfl, rfl, hb, hl, hm, hel, hget, -, -⟩
  · exact ⟨none, 0, [], rfl, by simp, by simp [maxLen], fun _ => rfl, fun h => absurd h (by simp)⟩
  · rw [hsz] at hget
    have hone : ∀ i : Fin len, ∃ x : α, ∃ c d, c.length = size ∧ (∀ j u, c[j]? = some u → w.cell? ((a.add (i.1 * size)).add j) = some u) ∧ Q c x d ∧ d ∈ elems.map (·.1) := fun i => by
      have hg := hget i.1 i.2
      have hil : i.1 < elems.length := by omega
      rw [List.getElem?_eq_getElem hil] at hg
      obtain ⟨ci, h1, h2⟩ := Option.bind_eq_some_iff.1 hg
      obtain ⟨x, hx⟩ := each m ci _ h2
      obtain ⟨k1, k2⟩ := cells_each h1
      exact ⟨x, ci, _, k1, k2, hx, List.mem_map.2 ⟨_, List.getElem_mem hil, rfl⟩⟩
    obtain ⟨f, hf⟩ := Classical.axiomOfChoice hone
    have hll : (List.ofFn f).length = len := by simp
    refine ⟨some a, cap, List.ofFn f, by rw [hll], by rw [hll]; exact hl, hm, fun e => by (cases e), fun h0 => ?_⟩
    rw [hll] at h0
    obtain ⟨b, off, sp⟩ := a
    have hsp : sp = none := by
      obtain ⟨c, d, k1, k2, -⟩ := hf ⟨0, h0⟩
      have := k2 0 (c[0]'(by omega)) (by simp)
      simp only [Nat.zero_mul, Addr.add] at this
      exact spotless this
    subst hsp
    have hbl : b < w.heap.size := by
      obtain ⟨c, d, k1, k2, -⟩ := hf ⟨0, h0⟩
      have := k2 0 (c[0]'(by omega)) (by simp)
      exact World.block_lt_of_cell? w _ (by simpa only [add_plain] using this)
    refine ⟨b, off, rfl, hbl, fun i hi => ?_⟩
    rw [hll] at hi
    obtain ⟨c, d, k1, k2, k3, k4⟩ := hf ⟨i, hi⟩
    exact ⟨c, d, k1, fun j u hj => by have := k2 j u hj; simpa only [add_plain] using this, by rw [List.getElem_ofFn]; exact k3, k4⟩
/-- a slice of ints that comes in -/
theorem open_iat {fuel : Nat} {v : Value} {y : DataW H × List MemPlace} (h : DataW.trod enc Tryd.prog w base spare held fuel 33 [v] = some y) : ∃ p l cap, v = .slice p l.length cap ∧ IAt w (.slice p l.length cap) l := by
  obtain ⟨p, cap, l, hcs, h1, h2, h3, h4⟩ := open_rows (α := Int) (Q := fun cs x _ => cs = [.int .i64 x]) 1 Tryd.underlying33 cellsIP (by decide) (fun m cs y hy => by
    obtain ⟨n, g, -, -⟩ := DataW.trod_int Tryd.underlying3 hy
    exact ⟨n, g⟩) h
  injection hcs with hcs _
  refine ⟨p, l, cap, hcs, p, cap, rfl, h1, h2, h3, fun h0 => ?_⟩
  obtain ⟨b, off, e, hb, hc⟩ := h4 h0
  refine ⟨b, off, e, hb, fun i hi => ?_⟩
  obtain ⟨c, d, -, k, rfl, -⟩ := hc i hi
  have := k 0 _ rfl
  simpa using this
set_option maxRecDepth 100000 in
theorem open_tx {fuel : Nat} {cs : List Value} {y : DataW H × List MemPlace} (h : DataW.trod enc Tryd.prog w base spare held fuel 39 cs = some y) :
    ∃ x : Tx, ∃ c0 c1 c2 c3 c4, cs = [c0, c1, c2, c3, c4] ∧ TxAt w (.agg #[c0, c1, c2, c3, c4]) x := by
  obtain ⟨f0, f1, f2, f3, hs, e0, e1, e2, e3, o0, o1, o2, o3⟩ := fieldsTerm
  obtain ⟨xs, n, rfl, rfl, hl, hlen, hf⟩ := DataW.trod_struct hs h
  rw [cellsTermP] at hl
  match cs, hl, xs, hlen with
  | [c0, c1, c2, c3, c4], _, [y0, y1, y2, y3], _ =>
    have h0 := hf 0 f0 rfl
    have h1 := hf 1 f1 rfl
    have h2 := hf 2 f2 rfl
    have h3 := hf 3 f3 rfl
    rw [e0, o0, cellsIP] at h0
    rw [e1, o1, cellsIsP] at h1
    rw [e2, o2, cellsIntP] at h2
    rw [e3, o3, cellsIP] at h3
    obtain ⟨k, g0, -, -⟩ := DataW.trod_int Tryd.underlying3 (show DataW.trod enc Tryd.prog w base spare held n 3 [c0] = some y0 from h0)
    obtain ⟨p, l, cap, g1, hi⟩ := open_iat (show DataW.trod enc Tryd.prog w base spare held n 33 [c1] = some y1 from h1)
    obtain ⟨s, g3, -, -⟩ := DataW.trod_int Tryd.underlying3 (show DataW.trod enc Tryd.prog w base spare held n 3 [c4] = some y3 from h3)
    obtain ⟨i0, i1, hsi, ei0, ei1, oi0, oi1⟩ := fieldsIntP
    obtain ⟨zs, m, -, -, -, hzl, hzf⟩ := DataW.trod_struct hsi (show DataW.trod enc Tryd.prog w base spare held n 37 [c2, c3] = some y2 from h2)
    match zs, hzl with
    | [z0, z1], _ =>
      have k0 := hzf 0 i0 rfl
      have k1 := hzf 1 i1 rfl
      rw [ei0, oi0, cellsBoolP] at k0
      rw [ei1, oi1, cellsNatP] at k1
      obtain ⟨b, gb, -⟩ := DataW.trod_bool Tryd.underlying4 (show DataW.trod enc Tryd.prog w base spare held m 4 [c2] = some z0 from k0)
      obtain ⟨ws, hw, hsm⟩ := open_nat (show DataW.trod enc Tryd.prog w base spare held m 35 [c3] = some z1 from k1)
      injection g0 with g0 _; injection g3 with g3 _; injection gb with gb _
      subst g0 g1 g3 gb
      obtain ⟨pm, cm, rfl, r⟩ := hw
      exact ⟨⟨k, l, b, ws, s⟩, _, _, _, _, _, rfl, p, cap, pm, cm, rfl, hi, ⟨pm, cm, rfl, r⟩, hsm⟩
set_option maxRecDepth 100000 in
theorem open_sy {fuel : Nat} {cs : List Value} {y : DataW H × List MemPlace} (h : DataW.trod enc Tryd.prog w base spare held fuel 51 cs = some y) :
    ∃ s : Sy, cs = s.cells ∧ ∃ r, y.1 = .agg (.lit (.string s.name) :: r) := by
  obtain ⟨f0, f1, f2, hs, e0, e1, e2, o0, o1, o2⟩ := fieldsSym
  obtain ⟨xs, n, rfl, rfl, hl, hlen, hf⟩ := DataW.trod_struct hs h
  rw [cellsSymP] at hl
  match cs, hl, xs, hlen with
  | [c0, c1, c2], _, [y0, y1, y2], _ =>
    have h0 := hf 0 f0 rfl
    have h1 := hf 1 f1 rfl
    have h2 := hf 2 f2 rfl
    rw [e0, o0, cellsSP] at h0
    rw [e1, o1, cellsIP] at h1
    rw [e2, o2, cellsIP] at h2
    obtain ⟨t, g0, gy, -⟩ := DataW.trod_string Tryd.underlying9 (show DataW.trod enc Tryd.prog w base spare held n 9 [c0] = some y0 from h0)
    obtain ⟨a, g1, -, -⟩ := DataW.trod_int Tryd.underlying3 (show DataW.trod enc Tryd.prog w base spare held n 3 [c1] = some y1 from h1)
    obtain ⟨s, g2, -, -⟩ := DataW.trod_int Tryd.underlying3 (show DataW.trod enc Tryd.prog w base spare held n 3 [c2] = some y2 from h2)
    injection g0 with g0 _; injection g1 with g1 _; injection g2 with g2 _
    subst g0 g1 g2
    exact ⟨⟨t.data.toList, a, s⟩, rfl, _, by rw [gy]; rfl⟩
set_option maxRecDepth 100000 in
/-- a term by value -/
theorem open_term {r : Reach} {b0 : Nat} {v : Value} {d : DataW H} {p : List MemPlace} (hv : Value.okWide Tryd.prog w r b0 39 v) (h : DataW.Trod enc Tryd.prog w base spare held 39 v d p) : ∃ x, TxAt w v x := by
  obtain ⟨f0, f1, f2, f3, hs, -⟩ := fieldsTerm
  obtain ⟨cs, rfl, hsz⟩ := okWide_struct hs hv
  obtain ⟨fuel, hf⟩ := h
  obtain ⟨x, c0, c1, c2, c3, c4, hcs, hx⟩ := open_tx hf
  obtain ⟨l⟩ := cs
  have : l = [c0, c1, c2, c3, c4] := by simpa [Value.cells] using hcs
  exact ⟨x, by rw [this]; exact hx⟩
set_option maxRecDepth 100000 in
/-- a symbol by value -/
theorem open_sym {r : Reach} {b0 : Nat} {v : Value} {d : DataW H} {p : List MemPlace} (hv : Value.okWide Tryd.prog w r b0 51 v) (h : DataW.Trod enc Tryd.prog w base spare held 51 v d p) : ∃ s : Sy, v = s.val := by
  obtain ⟨f0, f1, f2, hs, -⟩ := fieldsSym
  obtain ⟨cs, rfl, hsz⟩ := okWide_struct hs hv
  obtain ⟨fuel, hf⟩ := h
  obtain ⟨s, hcs, -⟩ := open_sy hf
  obtain ⟨l⟩ := cs
  have : l = s.cells := by simpa [Value.cells] using hcs
  exact ⟨s, by rw [this]; rfl⟩
/-- terms that come in -/
def TxsIn (w : World) (v : Value) (l : List Tx) : Prop :=
  ∃ p cap, v = .slice p l.length cap ∧ l.length ≤ cap ∧ cap ≤ maxLen ∧ (p = none → cap = 0) ∧
    (0 < l.length → ∃ b off, p = some ⟨b, off, none⟩ ∧ b < w.heap.size ∧ ∀ i (h : i < l.length), ∃ c0 c1 c2 c3 c4, w.cell? ⟨b, off + i * 5, none⟩ = some c0 ∧ w.cell? ⟨b, off + i * 5 + 1, none⟩ = some c1 ∧ w.cell? ⟨b, off + i * 5 + 2, none⟩ = some c2 ∧ w.cell? ⟨b, off + i * 5 + 3, none⟩ = some c3 ∧ w.cell? ⟨b, off + i * 5 + 4, none⟩ = some c4 ∧
      TxAt w (.agg #[c0, c1, c2, c3, c4]) l[i])
theorem TxsIn.tms {v : Value} {l : List Tx} (h : TxsIn w v l) (hs : ∀ x ∈ l, x.words.length ≤ 1099511627776) : TmsIn w v (l.map Tx.tm) := by
  obtain ⟨p, cap, rfl, h1, h2, h3, h4⟩ := h
  refine ⟨p, cap, by rw [List.length_map], by rw [List.length_map]; exact h1, h2, h3, fun h0 => ?_⟩
  rw [List.length_map] at h0
  obtain ⟨b, off, e, hb, hc⟩ := h4 h0
  refine ⟨b, off, e, hb, fun i hi => ?_⟩
  rw [List.length_map] at hi
  obtain ⟨c0, c1, c2, c3, c4, k0, k1, k2, k3, k4, hx⟩ := hc i hi
  exact ⟨c0, c1, c2, c3, c4, k0, k1, k2, k3, k4, by rw [List.getElem_map]; exact hx.raw (hs _ (List.getElem_mem hi))⟩
theorem open_txs {fuel : Nat} {cs : List Value} {y : DataW H × List MemPlace} (h : DataW.trod enc Tryd.prog w base spare held fuel 23 cs = some y) : ∃ v l, cs = [v] ∧ TxsIn w v l := by
  obtain ⟨p, cap, l, hcs, h1, h2, h3, h4⟩ := open_rows (α := Tx) (Q := fun cs x _ => ∃ c0 c1 c2 c3 c4, cs = [c0, c1, c2, c3, c4] ∧ TxAt w (.agg #[c0, c1, c2, c3, c4]) x) 5 Tryd.underlying23 cellsTermP (by decide) (fun m cs y hy => open_tx hy) h
  refine ⟨_, l, hcs, p, cap, rfl, h1, h2, h3, fun h0 => ?_⟩
  obtain ⟨b, off, e, hb, hc⟩ := h4 h0
  refine ⟨b, off, e, hb, fun i hi => ?_⟩
  obtain ⟨c, d, -, k, ⟨c0, c1, c2, c3, c4, rfl, hx⟩, -⟩ := hc i hi
  exact ⟨c0, c1, c2, c3, c4, k 0 _ rfl, k 1 _ rfl, k 2 _ rfl, k 3 _ rfl, k 4 _ rfl, hx⟩
theorem open_sys {fuel : Nat} {cs : List Value} {y : DataW H × List MemPlace} (h : DataW.trod enc Tryd.prog w base spare held fuel 22 cs = some y) :
    ∃ v l, cs = [v] ∧ SyIn w v l ∧ ∀ s ∈ l, ∃ r, DataW.agg (.lit (.string s.name) :: r) ∈ dataOf y.1 := by
  obtain ⟨p, cap, l, hcs, h1, h2, h3, h4⟩ := open_rows (α := Sy) (Q := fun cs s d => cs = s.cells ∧ ∃ r, d = .agg (.lit (.string s.name) :: r)) 3 Tryd.underlying22 cellsSymP (by decide) (fun m cs y hy => open_sy hy) h
  refine ⟨_, l, hcs, ⟨p, cap, rfl, h1, h2, h3, fun h0 => ?_⟩, fun s hs => ?_⟩
  · obtain ⟨b, off, e, hb, hc⟩ := h4 h0
    refine ⟨b, off, e, hb, fun i hi => ?_⟩
    obtain ⟨c, d, -, k, ⟨rfl, -⟩, -⟩ := hc i hi
    exact ⟨k 0 _ rfl, k 1 _ rfl, k 2 _ rfl⟩
  · obtain ⟨i, hi, rfl⟩ := List.mem_iff_getElem.1 hs
    obtain ⟨b, off, e, hb, hc⟩ := h4 (by omega)
    obtain ⟨c, d, -, k, ⟨-, r, rfl⟩, hm⟩ := hc i hi
    exact ⟨r, hm⟩
end
end Go.Proofs.YtmdkfpidohcafaaDoor
/- Symbols, terms, rows and bytes that come in as data, by value; how long names may be; PoolNil of what comes in. -/
namespace Go.Proofs.YtmdkfpidohcafaaDoor
open Go.ChangeShapes Go.WideShapes Go.ChangeAt Go.RowKit Go.Deep Go.Joins Big

theorem lawNil_tx (x : Tx) (v : Value) (s : Sy) (k : Int) (w : World) (htab : Tb w.heap.size w) (h : TxAt w v x) : Calls Tryd.prog 8 #[v, s.val, .int .i64 k] w (RBool true w) := by
  obtain ⟨pa, ca, pm, cm, rfl, -⟩ := h
  exact lawNil_any _ _ _ _ _ _ _ _ _ s k w htab
theorem cellsU8 : Tryd.prog.cellsOf 5 = 1 := by kernel_rfl
theorem fieldsTerms : ∃ f0 f1 : Field, Tryd.prog.underlying 27 = some (.struct #[f0, f1]) ∧ f0.type = 22 ∧ f1.type = 23 ∧ f0.offset = 0 ∧ f1.offset = 1 := ⟨_, _, Tryd.underlying27, rfl, rfl, rfl, rfl⟩
theorem cellsTermsP : Tryd.prog.cellsOf 27 = 2 := by kernel_rfl
theorem cellsSysP : Tryd.prog.cellsOf 22 = 1 := by kernel_rfl
theorem cellsTmsP : Tryd.prog.cellsOf 23 = 1 := by kernel_rfl
section
variable {H : Type} {enc : TypeId × Value → H} {w : World} {base : Nat} {spare : Nat → Bool} {held : Bool}
theorem weightsAll_mem {P : Program} {e : TypeId} : ∀ {ds : List (DataW H)} {d : DataW H}, d ∈ ds → ∀ n ∈ d.weights P e, n ∈ DataW.weightsAll P e ds
  | d0 :: ds, d, hd, n, hn => by
    simp only [DataW.weightsAll, List.mem_append]
    rcases List.mem_cons.1 hd with rfl | hd
    · exact .inl hn
    · exact .inr (weightsAll_mem hd n hn)
theorem name_weight {d : DataW H} {b : List UInt8} {r : List (DataW H)} (hm : DataW.agg (.lit (.string b) :: r) ∈ dataOf d) : b.length ∈ d.weights Tryd.prog 22 := by
  cases d with
  | slice e s =>
    obtain ⟨f0, f1, f2, hs, e0, -⟩ := fieldsSym
    unfold DataW.weights
    rw [Tryd.underlying22]
    refine List.mem_cons_of_mem _ (List.mem_append.2 (.inl (weightsAll_mem hm _ ?_)))
    unfold DataW.weights
    rw [hs]
    simp only [List.map_cons, DataW.weightsEach, List.mem_append]
    exact .inl (by simp [DataW.weights])
  | _ => simp [dataOf] at hm
theorem reach_small : reachBytes ≤ 281474976710656 := by decide
set_option maxRecDepth 100000 in
theorem open_syms {r : Reach} {b0 j : Nat} {v : Value} {d : DataW H} {p : List MemPlace} {ts : List TypeId} {ds : List (DataW H)} (hv : Value.okWide Tryd.prog w r b0 22 v) (h : DataW.Trod enc Tryd.prog w base spare held 22 v d p)
    (hsz : (DataW.weightsEach Tryd.prog ts ds).all (· ≤ reachBytes) = true) (ht : ts[j]? = some 22) (hd : ds[j]? = some d) : ∃ l, SyIn w v l ∧ ∀ s ∈ l, s.name.length ≤ 281474976710656 := by
  obtain ⟨a, len, cap, rfl⟩ := okWide_slice Tryd.underlying22 hv
  obtain ⟨fuel, hf⟩ := h
  obtain ⟨v', l, he, h1, h2⟩ := open_sys hf
  have hv' : v' = .slice a len cap := by simpa [Value.cells] using he.symm
  rw [hv'] at h1
  refine ⟨l, h1, fun s hs => ?_⟩
  obtain ⟨r, hm⟩ := h2 s hs
  have := List.all_eq_true.1 hsz _ (DataW.weights_mem_each ht hd _ (name_weight hm))
  have := reach_small
  simp at *
  omega
set_option maxRecDepth 100000 in
theorem open_terms {r : Reach} {b0 : Nat} {v : Value} {d : DataW H} {p : List MemPlace} (hv : Value.okWide Tryd.prog w r b0 23 v) (h : DataW.Trod enc Tryd.prog w base spare held 23 v d p) : ∃ l, TxsIn w v l := by
  obtain ⟨a, len, cap, rfl⟩ := okWide_slice Tryd.underlying23 hv
  obtain ⟨fuel, hf⟩ := h
  obtain ⟨v', l, he, h1⟩ := open_txs hf
  have hv' : v' = .slice a len cap := by simpa [Value.cells] using he.symm
  rw [hv'] at h1
  exact ⟨l, h1⟩
set_option maxRecDepth 100000 in
theorem open_rws {r : Reach} {b0 j : Nat} {v : Value} {d : DataW H} {p : List MemPlace} {ts : List TypeId} {ds : List (DataW H)} (hv : Value.okWide Tryd.prog w r b0 27 v) (h : DataW.Trod enc Tryd.prog w base spare held 27 v d p)
    (hsz : (DataW.weightsEach Tryd.prog ts ds).all (· ≤ reachBytes) = true) (ht : ts[j]? = some 27) (hd : ds[j]? = some d) : ∃ va vb sy tx, v = .agg #[va, vb] ∧ SyIn w va sy ∧ TxsIn w vb tx ∧ ∀ s ∈ sy, s.name.length ≤ 281474976710656 := by
  obtain ⟨f0, f1, hs, e0, e1, o0, o1⟩ := fieldsTerms
  obtain ⟨cs, rfl, -⟩ := okWide_struct hs hv
  obtain ⟨fuel, hf⟩ := h
  obtain ⟨xs, n, -, hx, hl, hlen, hfi⟩ := DataW.trod_struct hs hf
  rw [cellsTermsP] at hl
  obtain ⟨va, vb, hcs⟩ : ∃ a b, cs = #[a, b] := by
    obtain ⟨l⟩ := cs
    have hl' : l.length = 2 := by simpa [Value.cells] using hl
    match l, hl' with
    | [a, b], _ => exact ⟨a, b, rfl⟩
  subst hcs
  match xs, hlen with
  | [y0, y1], _ =>
    have h0 := hfi 0 f0 rfl
    have h1 := hfi 1 f1 rfl
    rw [e0, o0, cellsSysP] at h0
    rw [e1, o1, cellsTmsP] at h1
    obtain ⟨v0, sy, g0, k0, n0⟩ := open_sys (show DataW.trod enc Tryd.prog w base spare held n 22 [va] = some y0 from h0)
    obtain ⟨v1, tx, g1, k1⟩ := open_txs (show DataW.trod enc Tryd.prog w base spare held n 23 [vb] = some y1 from h1)
    injection g0 with g0 _; injection g1 with g1 _
    subst g0 g1
    refine ⟨va, vb, sy, tx, rfl, k0, k1, fun s hs' => ?_⟩
    obtain ⟨r, hm⟩ := n0 s hs'
    have hdd : d = .agg [y0.1, y1.1] := by injection hx
    have hwt : s.name.length ∈ d.weights Tryd.prog 27 := by
      rw [hdd]
      unfold DataW.weights
      rw [hs]
      simp only [List.map_cons, DataW.weightsEach, List.mem_append, e0]
      exact .inl (name_weight hm)
    have := List.all_eq_true.1 hsz _ (DataW.weights_mem_each ht hd _ hwt)
    have := reach_small
    simp at *
    omega
theorem wf_u8 {n : Int} (h : (Lit.int .u8 n).wf = true) : 0 ≤ n ∧ n < 256 := by
  have h' : (decide (IntKind.u8.min ≤ n) && decide (n ≤ IntKind.u8.max)) = true := h
  have e1 : IntKind.u8.min = 0 := by decide
  have e2 : IntKind.u8.max = 255 := by decide
  rw [e1, e2] at h'
  simp only [Bool.and_eq_true, decide_eq_true_eq] at h'
  omega
set_option maxRecDepth 100000 in
theorem open_bytes {r : Reach} {b0 : Nat} {v : Value} {d : DataW H} {p : List MemPlace} (hv : Value.okWide Tryd.prog w r b0 56 v) (h : DataW.Trod enc Tryd.prog w base spare held 56 v d p) :
    ∃ l, At w .u8 v l := by
  obtain ⟨a, len, cap, rfl⟩ := okWide_slice Tryd.underlying56 hv
  obtain ⟨fuel, hf⟩ := h
  rcases open_ints Tryd.underlying56 Tryd.underlying5 cellsU8 hf with ⟨he, -⟩ | ⟨a', len', cap', zs, he, hb, hl, hm, hz, -, hc, hwf⟩
  · have he : Value.slice a len cap = .slice none 0 0 := by simpa [Value.cells] using he
    rw [he]
    exact ⟨[], At.nil w .u8⟩
  · have he : Value.slice a len cap = .slice (some a') len' cap' := by simpa [Value.cells] using he
    rw [he]
    have hlz : len' ≤ zs.length := by rw [hz]; split <;> omega
    refine ⟨(zs.take len').map Int.toNat, ?_⟩
    have e : ((zs.take len').map Int.toNat).length = len' := by simp [Nat.min_eq_left hlz]
    refine ⟨some a', cap', by rw [e], by rw [e]; exact hl, hm, nofun, fun h0 => ?_⟩
    rw [e] at h0
    have hs := hc 0 (by omega)
    obtain ⟨b, off, spot⟩ := a'
    cases spot with
    | some x =>
      exfalso
      revert hs
      unfold World.cell? Addr.add
      split <;> simp
    | none =>
      refine ⟨b, off, rfl, World.block_lt_of_cell? w _ hs, fun i hi => ?_⟩
      rw [e] at hi
      have hci := hc i (by omega)
      have hw := wf_u8 (hwf _ (List.getElem_mem (n := i) (l := zs) (by omega)))
      rw [add_plain] at hci
      rw [hci]
      have hg : zs.getD i 0 = zs[i]'(by omega) := by simp [List.getD, show i < zs.length by omega]
      rw [hg]
      simp only [List.getElem_map, List.getElem_take]
      congr 2
      omega
end
end Go.Proofs.YtmdkfpidohcafaaDoor
/- PoolAgain answers true. -/
namespace Go.Proofs.YtmdkfpidohcafaaDoor
open Go.RowKit Big Go.WideMaps

/-- a pool whose terms, made one behind the other, come to their own places -/
def PoSelf (p : Po) : Prop := p.sorts.length = p.terms.length ∧ ∀ k (h : k < p.terms.length), plMake ⟨p.syms, p.terms.take k, p.sorts.take k⟩ p.terms[k] = (⟨p.syms, p.terms.take (k + 1), p.sorts.take (k + 1)⟩, ((k : Nat) : Int), 0)
theorem PoSelf.make {p : Po} (t : Tm) (h : PoSelf p) : PoSelf (plMake p t).1 ∧ (plMake p t).1.syms = p.syms ∧ ∀ x ∈ (plMake p t).1.terms, x ∈ p.terms ∨ x = t := by
  by_cases hw : plWrong p t = 0
  · cases hf : plFind p.terms t with
    | some k => rw [plMake_there hw hf]; exact ⟨h, rfl, fun x hx => .inl hx⟩
    | none =>
      by_cases h4 : p.terms.length = 4096
      · rw [plMake_full hw hf h4]; exact ⟨h, rfl, fun x hx => .inl hx⟩
      · have hm := plMake_new hw hf h4
        rw [hm]
        obtain ⟨h1, h2⟩ := h
        refine ⟨⟨by simp [h1], fun k hk => ?_⟩, rfl, fun x hx => by simpa using hx⟩
        have hk' : k < p.terms.length + 1 := by simpa using hk
        by_cases hlt : k < p.terms.length
        · show plMake ⟨p.syms, (p.terms ++ [t]).take k, (p.sorts ++ [plSort p t]).take k⟩ (p.terms ++ [t])[k] = (⟨p.syms, (p.terms ++ [t]).take (k + 1), (p.sorts ++ [plSort p t]).take (k + 1)⟩, ((k : Nat) : Int), 0)
          rw [List.take_append_of_le_length (by omega), List.take_append_of_le_length (by omega), List.take_append_of_le_length (by omega), List.take_append_of_le_length (by omega), List.getElem_append_left hlt]
          exact h2 k hlt
        · have e : k = p.terms.length := by omega
          subst e
          have e1 : (p.terms ++ [t]).take p.terms.length = p.terms := by simp
          have e2 : (p.sorts ++ [plSort p t]).take p.terms.length = p.sorts := by rw [← h1]; simp
          have e3 : (p.terms ++ [t]).take (p.terms.length + 1) = p.terms ++ [t] := List.take_of_length_le (by simp)
          have e4 : (p.sorts ++ [plSort p t]).take (p.terms.length + 1) = p.sorts ++ [plSort p t] := List.take_of_length_le (by simp [h1])
          have e5 : (p.terms ++ [t])[p.terms.length]'(by simp) = t := by simp
          show plMake ⟨p.syms, (p.terms ++ [t]).take p.terms.length, (p.sorts ++ [plSort p t]).take p.terms.length⟩ ((p.terms ++ [t])[p.terms.length]'(by simp)) = (⟨p.syms, (p.terms ++ [t]).take (p.terms.length + 1), (p.sorts ++ [plSort p t]).take (p.terms.length + 1)⟩, ((p.terms.length : Nat) : Int), 0)
          rw [e1, e2, e3, e4, e5]
          exact hm
  · rw [plMake_bad hw]; exact ⟨h, rfl, fun x hx => .inl hx⟩
theorem PoSelf.news {p : Po} (h : PoSelf p) : ∀ (n k : Nat), k + n = p.terms.length → (plNews ⟨p.syms, p.terms.take k, p.sorts.take k⟩ (p.terms.drop k)).2 = 0
  | 0, k, e => by rw [List.drop_of_length_le (by omega)]; rfl
  | n + 1, k, e => by
    have hk : k < p.terms.length := by omega
    rw [List.drop_eq_getElem_cons hk]
    have hnew : plNew ⟨p.syms, p.terms.take k, p.sorts.take k⟩ p.terms[k] = (⟨p.syms, p.terms.take (k + 1), p.sorts.take (k + 1)⟩, ((k : Nat) : Int), 0) := by
      unfold plNew
      rw [h.2 k hk, if_neg]
      intro h3
      have h4 := h3.2
      simp only [List.length_take] at h4
      omega
    unfold plNews
    rw [hnew, if_neg (by simp)]
    exact PoSelf.news h n (k + 1) (by omega)
theorem PoSelf.check {p : Po} (h : PoSelf p) (hs : plNewErr p.syms = 0) : plCheck p.syms p.terms = 0 := by
  unfold plCheck
  rw [if_neg (by simp [hs])]
  have := h.news p.terms.length 0 (by omega)
  rwa [List.drop_zero, List.take_zero, List.take_zero] at this
theorem RowsOwn.mono {B B' : Nat} {w : World} {v : Value} {s : List Sy} {t : List Tm} (h : RowsOwn B w v s t) (hb : B' ≤ B) : RowsOwn B' w v s t := by
  obtain ⟨a, b, h1, h2, h3⟩ := h
  exact ⟨a, b, h1, ownsRow_mono h2 hb, h3.mono hb⟩
theorem again_base {S S' : Nat → Prop} {n : Nat} {w w' : World} (h : ∀ i, S i → n ≤ i) (h' : ∀ k, S' k → S k ∨ w'.heap.size ≤ k) (hn : n ≤ w.heap.size) (hb : Below w.heap.size w w') : ∀ i, S' i → n ≤ i := fun i hi => by
  rcases h' i hi with h1 | h1
  · exact h i h1
  · have := hb.size; omega
theorem again_below {w w1 w2 w3 : World} {S : Nat → Prop} (h12 : Below w1.heap.size w1 w2) (h : Below w.heap.size w w1) (hA : Apart S w2 w3) (hS : ∀ i, S i → w.heap.size ≤ i) : Below w.heap.size w w3 :=
  (bel_go h12 h).trans (hA.below (B := w.heap.size) (bel_go h12 h).size hS)
/-- the first loop: the pool that is made -/
def AgainP (w : World) (L : List Tm) (sy : List Sy) (g : Nat) (wr : World) : Prop := ∃ pk Sk, PoAt wr Sk g pk ∧ (∀ i, Sk i → w.heap.size ≤ i) ∧ PoSelf pk ∧ pk.syms = sy ∧ (∀ x ∈ pk.terms, x ∈ L) ∧ Below w.heap.size w wr
/-- the second loop: the pool that is made again -/
def AgainQ (w : World) (p : Po) (g k : Nat) (wr : World) : Prop := ∃ Sk, PoAt wr Sk g ⟨p.syms, p.terms.take k, p.sorts.take k⟩ ∧ (∀ i, Sk i → w.heap.size ≤ i) ∧ Below w.heap.size w wr
set_option maxRecDepth 100000 in
set_option maxHeartbeats 25600000 in
theorem lawAgain_any (va vb : Value) (sy : List Sy) (tx : List Tx) (w : World) (htab : Tb w.heap.size w) (hs : SyIn w va sy) (ht : TxsIn w vb tx) (hn : ∀ s ∈ sy, s.name.length ≤ 281474976710656) :
    Calls Tryd.prog 6 #[va, vb] w (RBool true w) := by
  have Hs := hid hs; have Ht := hid ht; have Htab := hid htab; have Hn := hid hn
  have hsm := ht.small
  obtain ⟨pa, ca, rfl, i1, i2, -, -⟩ := hs
  obtain ⟨pb, cb, rfl, j1, j2, -, -⟩ := ht
  unfold maxLen at i2 j2
  have Hfx := hid (fixed_any w.heap.size w (Nat.le_refl _) htab)
  clear htab hn
  go_enter Tryd.func6, Tryd.ntmps6
  go_wp2_with fail
  refine Hfx.out.mono ?_
  rintro e w1 ⟨rfl, b1⟩
  have Hb1 := hid b1
  clear b1 Hfx
  cases h300 : decide ((300 : Int) < (sy.length : Nat))
  case true =>
    go_wp2
    go_ret
    exact ⟨rfl, Hb1.out⟩
  case false =>
  have Hfew := hid (RFew_any (.slice none 0 0) _ [] tx w1 (SyIn.nil w1) (Ht.out.below Hb1.out))
  go_wp2_with fail
  refine Hfew.out.mono ?_
  rintro e w2 ⟨rfl, b2⟩
  have Hb2 := hid (bel_go b2 Hb1.out)
  clear b2 Hfew Hb1
  cases hfew : plFew [] tx
  case false =>
    go_wp2
    go_ret
    exact ⟨rfl, Hb2.out⟩
  case true =>
  have hft := few_tm hfew
  have Htm := hid (Ht.out.tms fun x hx => Nat.le_trans (hft x hx).2 (by decide))
  have Hft : Hid (∀ t ∈ tx.map Tx.tm, t.args.length ≤ 70 ∧ sz W t.num.natAbs ≤ 8) := hid (fun t h => by
    obtain ⟨x, hx, rfl⟩ := List.mem_map.1 h
    exact ⟨(hft x hx).1, few_sz x (hft x hx).2 (hsm x hx)⟩)
  have HL := hid (show (tx.map Tx.tm).length = tx.length by simp)
  clear hft hfew hsm Ht
  generalize tx.map Tx.tm = L at *
  have Hnew := hid (New_any _ sy w2 (Hs.out.below Hb2.out) Hn.out)
  go_wp2_with fail
  refine Hnew.out.mono ?_
  rintro e w3 ⟨hbad, hok, b3⟩
  have Hb3 := hid (bel_go b3 Hb2.out)
  have hz3 := Hb2.out.size
  clear b3 Hnew
  by_cases hne : plNewErr sy = 0
  case neg =>
    obtain rfl := hbad hne
    clear hok hbad
    generalize plNewErr sy = er at *
    have hbt : (er != 0) = true := by simpa using hne
    go_wp2_with fail
    go_ret
    exact ⟨rfl, Hb3.out⟩
  case pos =>
  obtain ⟨g, S, rfl, hp, hS⟩ := hok hne
  have Hat : Hid (AgainP w L sy g w3) := hid ⟨_, S, hp, fun i hi => by have := hS i hi; omega, ⟨rfl, fun k h => absurd h (by simp)⟩, rfl, (fun x h => absurd h (by simp)), Hb3.out⟩
  have Hne := hid hne
  clear hok hbad hp hS Hb3 h300 hne Hb2 hz3 Hs
  go_wp2_with fail
  go_loopw [36] (fun i wr => ∃ k : Nat, k ≤ tx.length ∧ i = .int .i64 (k : Nat) ∧ Hid (AgainP w L sy g wr)) (fun i _ => tx.length - (intOf i).toNat)
  case atStart => exact ⟨0, Nat.zero_le _, rfl, Hat⟩
  case round =>
    obtain ⟨k, hk, rfl, Hk⟩ := hrel
    obtain ⟨pk, Sk, hp, hS, hself, hsy, hin, hb⟩ := Hk.out
    by_cases hlt : k < tx.length
    · have hlt' : (k : Int) < (tx.length : Nat) := by omega
      have hltL : k < L.length := by rw [HL.out]; exact hlt
      obtain ⟨pp, cc, e5, -, -, -, hc⟩ := Htm.out.below hb
      injection e5 with a5 b5 c5
      subst a5
      subst c5
      obtain ⟨bb, off, rfl, k1, k2⟩ := hc (by omega)
      obtain ⟨c0, c1, c2, c3, c4, m0, m1, m2, m3, m4, hraw⟩ := k2 k hltL
      have hns := (Hft.out L[k] (List.getElem_mem hltL)).1
      have hxm := List.getElem_mem hltL
      have htb := Lib.TabBelow.on Htab.out hb
      have hBr := hb.size
      have hdc := fun W (hw : Below wr.heap.size wr W) => Make_any w.heap.size Sk g pk L[k] _ W (hp.below hw) (Nat.le_trans hBr hw.size) (Lib.TabBelow.on htb (hw.mono hBr)) (hraw.below hw) (Nat.le_trans hns (by decide))
      have hmk := hself.make L[k]
      generalize L[k] = x at *
      generalize hrr : plMake pk x = rr at *
      obtain ⟨p2, n2, er⟩ := rr
      dsimp only at *
      obtain ⟨pa', ca', b, pm, nm, cm, ea, -, -⟩ := hraw
      cases ea
      have Hdc := hid hdc; have Hmk := hid hmk; have HS := hid hS; have Hb := hid hb; have Hin := hid hin; have Hxm := hid hxm; have Hsy := hid hsy
      have bx := below1 wr (.cells #[.int .i64 x.op, .slice pa' x.args.length ca', .bool b, .slice pm nm cm, .int .i64 x.sym] 39)
      clear k2 hns hdc hp hS hb Hk hrr htb hmk hin hxm hsy hself hc b5
      go_wp2_with fail
      refine (Hdc.out _ bx).mono ?_
      rintro e w4 ⟨rfl, S4, hp4, hS4, hA4⟩
      have Hk4 := hid (show AgainP w L sy g w4 from ⟨p2, S4, hp4, again_base HS.out hS4 hBr bx, Hmk.out.1, Hmk.out.2.1.trans Hsy.out, fun y hy => (Hmk.out.2.2 y hy).elim (Hin.out y) (fun e => e ▸ Hxm.out), again_below bx Hb.out hA4 HS.out⟩)
      clear hp4 hS4 hA4 bx
      go_wp2_with fail
      go_roundw
      case rel => exact ⟨k + 1, by omega, rfl, Hk4⟩
      case measure => simp [intOf]; omega
    · have hkk : k = tx.length := by omega
      subst hkk
      have Hrows := hid (Rows_any Sk g pk wr hp)
      have hsm : ∀ t ∈ pk.terms, t.args.length ≤ 70 ∧ sz W t.num.natAbs ≤ 8 := fun t h => Hft.out t (hin t h)
      have Hsm := hid hsm; have Hself := hid hself; have Hb := hid hb; have Hne' := hid (show plNewErr pk.syms = 0 by rw [hsy]; exact Hne.out)
      have Hn' := hid (show ∀ s ∈ pk.syms, s.name.length ≤ 281474976710656 by rw [hsy]; exact Hn.out)
      have Hso := hid hp.2.1.sorts
      have h4096 := hp.2.1.terms
      clear hlt hp hS hself hsy hin hb Hk hsm Hat Hne Hn
      obtain ⟨syms, terms, sorts⟩ := pk
      dsimp only at *
      go_wp2_with fail
      refine Hrows.out.mono ?_
      rintro e w5 ⟨vr, rfl, hro, b5⟩
      obtain ⟨va, vb, rfl, hsy, htms⟩ := hro
      have hin5 := htms.in (fun t h => Nat.le_trans (Hsm.out t h).2 (by decide))
      have hsy5 := (SyAt.own (ownsRow_mono hsy (Nat.zero_le _))).handed
      obtain ⟨pq, cq, rfl⟩ := ownsRow_shape hsy
      obtain ⟨cst, hrt, -⟩ := htms
      obtain ⟨pt, ct, rfl⟩ := ownsRow_shape hrt
      have bx := below1 w5 (.cells #[.slice pq syms.length cq, .slice pt terms.length ct] 27)
      have hx6 := heap_alloc_new w5 (.cells #[.slice pq syms.length cq, .slice pt terms.length ct] 27)
      have hz6 := size_alloc w5 (.cells #[.slice pq syms.length cq, .slice pt terms.length ct] 27)
      have Hin6 := hid (hin5.below bx)
      have Hsy6 := hid (hsy5.below bx)
      have Hb6 := hid (bel_go bx (bel_go b5 Hb.out))
      clear hsy hrt b5 Hrows hin5 hsy5 bx Hb
      go_wp2_with fail
      generalize hW6 : (w5.alloc (.cells #[.slice pq syms.length cq, .slice pt terms.length ct] 27)) = w6 at *
      obtain ⟨G, hG⟩ : ∃ G, G = w5.heap.size := ⟨_, rfl⟩
      rw [← hG] at hx6 hz6 ⊢
      have hGz : G < w6.heap.size := by omega
      have Hx6 := hid hx6
      clear hW6 hG hz6 hx6
      have Hnew := hid (New_any _ syms w6 Hsy6.out Hn'.out)
      refine Hnew.out.mono ?_
      rintro e w7 ⟨-, hok, b7⟩
      obtain ⟨gq, Sq, rfl, hq, hSq⟩ := hok Hne'.out
      have hx7 := (b7.block G hGz).trans Hx6.out
      have Hx7 := hid hx7
      have htb7 := Lib.TabBelow.on Htab.out (bel_go b7 Hb6.out)
      have Hck := hid (Check_any w.heap.size _ _ syms terms w7 (bel_go b7 Hb6.out).size htb7 (Hsy6.out.below b7) (Hin6.out.below b7) Hn'.out (fun t h => Nat.le_trans (Hsm.out t h).1 (by decide)))
      have hck0 : plCheck syms terms = 0 := Hself.out.check Hne'.out
      rw [hck0] at Hck
      have q := two_cells hx7
      obtain ⟨z0, z1, -, -⟩ := q
      have Hq := hid hq; have HSq := hid hSq; have Hb7 := hid b7
      clear hx7 Hnew hok b7 hq hSq hck0 htb7
      go_wp2_with fail
      refine Hck.out.mono ?_
      rintro e w8 ⟨rfl, b8⟩
      have h78 := Hb7.out.size
      have hx8 := (b8.block G (by omega)).trans Hx7.out
      have Hq8 : Hid (AgainQ w6 ⟨syms, terms, sorts⟩ gq 0 w8) := hid ⟨Sq, Hq.out.below b8, fun i hi => HSq.out i hi, bel_go b8 Hb7.out⟩
      have q := two_cells hx8
      clear z0 z1 Hck
      obtain ⟨z0, z1, -, -⟩ := q
      clear b8 hx8 Hq HSq Hb7 Hx7
      go_wp2_with fail
      go_loopw [62] (fun i wr => ∃ k : Nat, k ≤ terms.length ∧ i = .int .i64 (k : Nat) ∧ Hid (AgainQ w6 ⟨syms, terms, sorts⟩ gq k wr)) (fun i _ => terms.length - (intOf i).toNat)
      case atStart => exact ⟨0, Nat.zero_le _, rfl, Hq8⟩
      case round =>
        obtain ⟨k, hk, rfl, Hk⟩ := hrel
        obtain ⟨Sk, hp, hS, hb⟩ := Hk.out
        by_cases hlt : k < terms.length
        case pos =>
          have hlt' : (k : Int) < (terms.length : Nat) := by omega
          obtain ⟨pp, cc, e5, -, -, -, hc⟩ := Hin6.out.below hb
          injection e5 with a5 b5 c5
          subst a5
          subst c5
          obtain ⟨bb, off, rfl, k1, k2⟩ := hc (by omega)
          obtain ⟨c0, c1, c2, c3, c4, m0, m1, m2, m3, m4, hraw⟩ := k2 k hlt
          have hns := (Hsm.out terms[k] (List.getElem_mem hlt)).1
          have hBr := Nat.le_trans Hb6.out.size hb.size
          have htb := Lib.TabBelow.on Htab.out (bel_go hb Hb6.out)
          have hdc := fun W (hw : Below wr.heap.size wr W) => Make_any w.heap.size Sk gq ⟨syms, terms.take k, sorts.take k⟩ terms[k] _ W (hp.below hw) (Nat.le_trans hBr hw.size) (Lib.TabBelow.on htb (hw.mono hBr)) (hraw.below hw) (Nat.le_trans hns (by decide))
          have hmk := Hself.out.2 k hlt
          dsimp only at hmk
          rw [hmk] at hdc
          generalize terms[k] = x at *
          obtain ⟨pa', ca', b, pm, nm, cm, ea, -, -⟩ := hraw
          cases ea
          have Hdc := hid hdc; have HS := hid hS; have Hb := hid hb
          have bx := below1 wr (.cells #[.int .i64 x.op, .slice pa' x.args.length ca', .bool b, .slice pm nm cm, .int .i64 x.sym] 39)
          have hb6r := hb.size
          clear k2 hns hdc hp hS hb Hk htb hmk hc b5
          go_wp2_with fail
          refine (Hdc.out _ bx).mono ?_
          rintro e w9 ⟨rfl, S9, hp9, hS9, hA9⟩
          have Hk9 := hid (show AgainQ w6 ⟨syms, terms, sorts⟩ gq (k + 1) w9 from ⟨S9, hp9, again_base HS.out hS9 hb6r bx, again_below bx Hb.out hA9 HS.out⟩)
          clear hp9 hS9 hA9 bx
          go_wp2_with fail
          go_roundw
          case rel => exact ⟨k + 1, by omega, rfl, Hk9⟩
          case measure => simp [intOf]; omega
        case neg =>
          have hkk : k = terms.length := by omega
          subst hkk
          have e1 : terms.take terms.length = terms := List.take_length
          have e2 : sorts.take terms.length = sorts := by have := Hso.out; rw [← this]; exact List.take_length
          dsimp only at hp
          rw [e1, e2] at hp
          have Hrw := hid (fun W (hw : Below wr.heap.size wr W) => Rows_any Sk gq ⟨syms, terms, sorts⟩ W (hp.below hw))
          have HS : Hid (∀ w', Below wr.heap.size wr w' → w'.cell? ⟨G, 0, none⟩ = some (.slice pq syms.length cq) ∧ w'.cell? ⟨G, 1, none⟩ = some (.slice pt terms.length ct)) := hid fun w' hw =>
            have hx := (hw.block G (by have := hb.size; omega)).trans ((hb.block G hGz).trans Hx6.out)
            ⟨(two_cells hx).1, (two_cells hx).2.1⟩
          have Hsr : Hid (∀ (v : Value) (W : World), RowsOwn wr.heap.size W v syms terms → Below wr.heap.size wr W → Calls Tryd.prog 18 #[v, .agg #[.slice pq syms.length cq, .slice pt terms.length ct]] W (RBool true W)) := hid fun v W ho hw => by
            obtain ⟨a, b, rfl, hs9, ht9⟩ := ho
            exact SameRows_true _ _ syms terms W ⟨_, _, rfl, (SyAt.own (ownsRow_mono hs9 (Nat.zero_le _))).handed, ht9.in (fun t h => Nat.le_trans (Hsm.out t h).2 (by decide))⟩
              ⟨_, _, rfl, Hsy6.out.below (bel_go hw hb), Hin6.out.below (bel_go hw hb)⟩ (fun t h => Nat.le_trans (Hsm.out t h).2 (by decide))
          have Hbw := hid (bel_go hb Hb6.out)
          clear hp hS hb Hk e1 e2 hlt z0 z1
          go_upto_region 24 with fail
          refine wp_region_facts (w0 := wr) 5 0 [81, 82, 83, 84, 4] [undef, undef, undef, undef, u4]
            (fun i => match i with | 0 => eqD (.pointer (some ⟨gq, 0, none⟩)) | 1 => rowsF wr.heap.size syms terms | 2 => eqD (.agg #[.slice pq syms.length cq, .slice pt terms.length ct]) | 3 => eqD (.bool true) | _ => eqD (.bool true)) [] (by kernel_rfl) (by kernel_rfl) (by kernel_rfl) (by kernel_rfl) (by decide) rfl (by kernel_rfl) rfl (by simp) ?he1 ?_ ?_ ?_
          case he1 => simp only [putAll, Act.put, List.setIfInBounds_toArray, List.set_cons_zero, List.set_cons_succ]
          · intro i hi; simp at hi
          · intro i o hi ho vs wx hvl hb hdep K hK
            have hvs := vlen5 hvl
            obtain ⟨s81, s82, s83, s84, s4, rfl⟩ := hvs
            clear hvl
            have hk := HS.out wx hb
            go_split_ands
            rcases i with _ | _ | _ | _ | _ | i
            all_goals (simp only [List.getElem?_toArray, List.getElem?_cons_zero, List.getElem?_cons_succ, Option.some.injEq] at ho)
            all_goals try (subst ho)
            all_goals try simp only [putAll, Act.put, List.setIfInBounds_toArray, List.set_cons_zero, List.set_cons_succ]
            · go_simp
              have hK' := hK.out
              simp only [putAll, Act.put, List.setIfInBounds_toArray, List.set_cons_zero, List.set_cons_succ] at hK'
              exact hK' _ _ rfl (Below.refl _ _) (by simp)
            · have e0 : s81 = _ := hdep ⟨0, .data⟩ (by simp) rfl
              have e0 := e0.symm
              subst e0
              go_simp
              go_simp
              refine (Hrw.out _ hb).mono ?_
              rintro e wy ⟨v', rfl, ho, hby⟩
              go_wp2_with fail
              have hK' := hK.out
              simp only [putAll, Act.put, List.setIfInBounds_toArray, List.set_cons_zero, List.set_cons_succ] at hK'
              exact hK' _ _ (ho.mono hb.size) hby (by simp)
            · go_simp
              have hK' := hK.out
              simp only [putAll, Act.put, List.setIfInBounds_toArray, List.set_cons_zero, List.set_cons_succ] at hK'
              exact hK' _ _ rfl (Below.refl _ _) (by simp)
            · have e1 : (rowsF wr.heap.size syms terms).P s82 wx := hdep ⟨1, .data⟩ (by simp) rfl
              have e2 : s83 = _ := hdep ⟨2, .data⟩ (by simp) rfl
              have e2 := e2.symm
              subst e2
              go_simp
              have ho := (show RowsOwn wr.heap.size wx s82 syms terms from e1)
              have hsr := Hsr.out _ wx ho hb
              go_simp
              refine hsr.mono ?_
              rintro e wy ⟨rfl, hby⟩
              go_wp2_with fail
              have hK' := hK.out
              simp only [putAll, Act.put, List.setIfInBounds_toArray, List.set_cons_zero, List.set_cons_succ] at hK'
              exact hK' _ _ rfl hby (by simp)
            · have e3 : s84 = _ := hdep ⟨3, .data⟩ (by simp) rfl
              have e3 := e3.symm
              subst e3
              go_simp
              have hK' := hK.out
              simp only [putAll, Act.put, List.setIfInBounds_toArray, List.set_cons_zero, List.set_cons_succ] at hK'
              exact hK' _ _ rfl (Below.refl _ _) (by simp)
            · omega
          · intro vs wx hvl hb hf hdist
            have hvs := vlen5 hvl
            obtain ⟨s81, s82, s83, s84, s4, rfl⟩ := hvs
            have f4 : s4 = .bool true := hf 4 (by decide)
            clear hf hdist hvl
            subst f4
            refine wpAny_done (by kernel_rfl) ?_ _
            try simp only [putAll, Act.put, List.setIfInBounds_toArray, List.set_cons_zero, List.set_cons_succ]
            go_wp2
            go_ret
            exact ⟨rfl, bel_go hb Hbw.out⟩
end Go.Proofs.YtmdkfpidohcafaaDoor
/- The package-level tables that the rows list, as start-up lays them; a world that holds them. -/
namespace Go.Proofs.YtmdkfpidohcafaaDoor
open Go.ChangeShapes Go.WideShapes Go.ChangeAt Go.RowKit

theorem own : ownKnob Tryd.prog.godebug = none := by kernel_rfl
def tabPow : Array Value := #[.int .u64 1, .int .u64 10, .int .u64 100, .int .u64 1000, .int .u64 10000, .int .u64 100000, .int .u64 1000000, .int .u64 10000000, .int .u64 100000000, .int .u64 1000000000, .int .u64 10000000000, .int .u64 100000000000, .int .u64 1000000000000, .int .u64 10000000000000, .int .u64 100000000000000, .int .u64 1000000000000000, .int .u64 10000000000000000, .int .u64 100000000000000000, .int .u64 1000000000000000000, .int .u64 10000000000000000000]
def tab32 : Array Value := #[.int .u8 0, .int .u8 1, .int .u8 28, .int .u8 2, .int .u8 29, .int .u8 14, .int .u8 24, .int .u8 3, .int .u8 30, .int .u8 22, .int .u8 20, .int .u8 15, .int .u8 25, .int .u8 17, .int .u8 4, .int .u8 8, .int .u8 31, .int .u8 27, .int .u8 13, .int .u8 23, .int .u8 21, .int .u8 19, .int .u8 16, .int .u8 7, .int .u8 26, .int .u8 12, .int .u8 18, .int .u8 6, .int .u8 11, .int .u8 5, .int .u8 10, .int .u8 9]
def tab64 : Array Value := #[.int .u8 0, .int .u8 1, .int .u8 56, .int .u8 2, .int .u8 57, .int .u8 49, .int .u8 28, .int .u8 3, .int .u8 61, .int .u8 58, .int .u8 42, .int .u8 50, .int .u8 38, .int .u8 29, .int .u8 17, .int .u8 4, .int .u8 62, .int .u8 47, .int .u8 59, .int .u8 36, .int .u8 45, .int .u8 43, .int .u8 51, .int .u8 22, .int .u8 53, .int .u8 39, .int .u8 33, .int .u8 30, .int .u8 24, .int .u8 18, .int .u8 12, .int .u8 5, .int .u8 63, .int .u8 55, .int .u8 48, .int .u8 27, .int .u8 60, .int .u8 41, .int .u8 37, .int .u8 16, .int .u8 46, .int .u8 35, .int .u8 44, .int .u8 21, .int .u8 52, .int .u8 32, .int .u8 23, .int .u8 11, .int .u8 54, .int .u8 26, .int .u8 40, .int .u8 15, .int .u8 34, .int .u8 20, .int .u8 31, .int .u8 10, .int .u8 25, .int .u8 14, .int .u8 19, .int .u8 9, .int .u8 13, .int .u8 8, .int .u8 7, .int .u8 6]
/-- the object that block k holds behind start-up -/
def laidObj (k : Nat) (o : Obj) : Obj :=
  match o with
  | .cells c t frozen => if k = 0 then .cells tabPow t frozen else if k = 1 then .cells tab32 t frozen else if k = 2 then .cells tab64 t frozen else .cells c t frozen
  | o => o
noncomputable def laidWorld (os : Os) : World :=
  { World.holding Tryd.prog os ⟨#[], #[], []⟩ with heap := (((World.holding Tryd.prog os ⟨#[], #[], []⟩).heap.modify 0 (laidObj 0)).modify 1 (laidObj 1)).modify 2 (laidObj 2) }
end Go.Proofs.YtmdkfpidohcafaaDoor
