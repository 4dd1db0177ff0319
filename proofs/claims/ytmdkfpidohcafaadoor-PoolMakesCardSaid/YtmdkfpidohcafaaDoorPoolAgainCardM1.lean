/- Texts put together: PlSame2, PlAgain. -/
import Derived.Test.YtmdkfpidohcafaaDoorPoolChecksCardM1
/- elenchusref04.SameRows of rows that are the same. -/
namespace Go.Proofs.YtmdkfpidohcafaaDoor
open Go.RowKit Big Go.WideMaps

set_option maxRecDepth 100000 in
set_option maxHeartbeats 25600000 in
theorem SameRows_true (va vb : Value) (s : List Sy) (l : List Tm) (w : World) (ha : RwIn w va s l) (hb : RwIn w vb s l) (hsz : ∀ x ∈ l, sz W x.num.natAbs ≤ 549755813888) :
    Calls Tryd.prog 18 #[va, vb] w (RBool true w) := by
  obtain ⟨a0, a1, rfl, ⟨pa, ca, rfl, i1, i2, -, i4⟩, hta⟩ := ha
  obtain ⟨b0, b1, rfl, ⟨pc, cc, rfl, k1, k2, -, k4⟩, htb⟩ := hb
  have Hta := hid hta; have Htb := hid htb
  obtain ⟨pb, cb, rfl, b1, b2, -, -⟩ := hta
  obtain ⟨pd, cd, rfl, -, d2, -, -⟩ := htb
  have Hi := hid i4; have Hk := hid k4; have Hsz := hid hsz
  unfold maxLen at i2 k2 b2 d2
  have bx := below1 w (.cells #[.slice pa s.length ca, .slice pb l.length cb] 27)
  have hx0 := heap_alloc_new w (.cells #[.slice pa s.length ca, .slice pb l.length cb] 27)
  have hz := size_alloc w (.cells #[.slice pa s.length ca, .slice pb l.length cb] 27)
  have by_ := below1 (w.alloc (.cells #[.slice pa s.length ca, .slice pb l.length cb] 27)) (.cells #[.slice pc s.length cc, .slice pd l.length cd] 27)
  have hy0 := heap_alloc_new (w.alloc (.cells #[.slice pa s.length ca, .slice pb l.length cb] 27)) (.cells #[.slice pc s.length cc, .slice pd l.length cd] 27)
  have hz2 := size_alloc (w.alloc (.cells #[.slice pa s.length ca, .slice pb l.length cb] 27)) (.cells #[.slice pc s.length cc, .slice pd l.length cd] 27)
  rw [hz] at hy0 hz2
  have hx1 := (by_.block w.heap.size (by omega)).trans hx0
  have bw := bel_go by_ bx
  clear i4 k4 hsz bx hx0 by_
  go_enter Tryd.func18, Tryd.ntmps18
  go_upto_region 1 with fail
  generalize hW : ((w.alloc (.cells #[.slice pa s.length ca, .slice pb l.length cb] 27)).alloc (.cells #[.slice pc s.length cc, .slice pd l.length cd] 27)) = W2 at *
  clear hW hz
  have HZ : Hid (∀ w', Below W2.heap.size W2 w' → w'.cell? ⟨w.heap.size, 0, none⟩ = some (.slice pa s.length ca) ∧ w'.cell? ⟨w.heap.size, 1, none⟩ = some (.slice pb l.length cb) ∧ w'.cell? ⟨w.heap.size + 1, 0, none⟩ = some (.slice pc s.length cc) ∧ w'.cell? ⟨w.heap.size + 1, 1, none⟩ = some (.slice pd l.length cd)) := hid fun w' hb =>
    ⟨(two_cells ((hb.block w.heap.size (by omega)).trans hx1)).1, (two_cells ((hb.block w.heap.size (by omega)).trans hx1)).2.1, (two_cells ((hb.block (w.heap.size + 1) (by omega)).trans hy0)).1, (two_cells ((hb.block (w.heap.size + 1) (by omega)).trans hy0)).2.1⟩
  have HBw := hid bw
  clear hx1 hy0 bw hz2
  obtain ⟨z0, z1, y0, y1⟩ := HZ.out W2 (Below.refl _ _)
  go_wp2_with fail
  clear z0 z1 y0 y1
  go_loopw [26] (fun i wr => ∃ k : Nat, k ≤ s.length ∧ i = .int .i64 (k : Nat) ∧ Hid (Below W2.heap.size W2 wr)) (fun i _ => s.length - (intOf i).toNat)
  case atStart => exact ⟨0, Nat.zero_le _, rfl, hid (Below.refl _ _)⟩
  case round =>
    obtain ⟨k, hk, rfl, Hb⟩ := hrel
    have Hbw := hid (bel_go Hb.out HBw.out)
    obtain ⟨z0, z1, y0, y1⟩ := HZ.out wr Hb.out
    by_cases hlt : k < s.length
    · have hlt' : (k : Int) < (s.length : Nat) := by omega
      obtain ⟨bb, off, rfl, j1, j2⟩ := Hi.out (by omega)
      obtain ⟨bc, off', rfl, o1, o2⟩ := Hk.out (by omega)
      obtain ⟨m0, m1, m2⟩ := j2 k hlt
      obtain ⟨n0, n1, n2⟩ := o2 k hlt
      have m0 := (Hbw.out.cell (p := ⟨bb, off + k * 3, none⟩) j1).trans m0
      have m1 := (Hbw.out.cell (p := ⟨bb, off + k * 3 + 1, none⟩) j1).trans m1
      have m2 := (Hbw.out.cell (p := ⟨bb, off + k * 3 + 2, none⟩) j1).trans m2
      have n0 := (Hbw.out.cell (p := ⟨bc, off' + k * 3, none⟩) o1).trans n0
      have n1 := (Hbw.out.cell (p := ⟨bc, off' + k * 3 + 1, none⟩) o1).trans n1
      have n2 := (Hbw.out.cell (p := ⟨bc, off' + k * 3 + 2, none⟩) o1).trans n2
      generalize s[k].name = nm at *
      generalize s[k].arity = ar at *
      generalize s[k].sort = so at *
      clear j2 o2 Hi Hk
      go_wp2_with fail
      go_quiet (fail)
      go_wp2
      go_roundw
      case rel => exact ⟨k + 1, by omega, rfl, hid (below_drewN Hb.out _)⟩
      case measure => simp [intOf]; omega
    · have hkk : k = s.length := by omega
      subst hkk
      go_wp2_with fail
      clear z0 z1 y0 y1
      go_loopw [44] (fun i wr => ∃ k : Nat, k ≤ l.length ∧ i = .int .i64 (k : Nat) ∧ Hid (Below W2.heap.size W2 wr)) (fun i _ => l.length - (intOf i).toNat)
      case atStart => exact ⟨0, Nat.zero_le _, rfl, Hb⟩
      case round =>
      clear Hb Hbw
      obtain ⟨k, hk, rfl, Hb⟩ := hrel
      have Hbw := hid (bel_go Hb.out HBw.out)
      by_cases hlt : k < l.length
      case neg =>
        have hkk : k = l.length := by omega
        subst hkk
        go_wp2_with fail
        go_ret
        exact ⟨rfl, Hbw.out⟩
      case pos =>
      have hlt' : (k : Int) < (l.length : Nat) := by omega
      obtain ⟨_, _, e5, -, -, -, hc⟩ := Hta.out
      obtain ⟨_, _, e6, -, -, -, hd⟩ := Htb.out
      cases e5; cases e6
      obtain ⟨bb, off, rfl, j1, j2⟩ := hc (by omega)
      obtain ⟨bc, off', rfl, o1, o2⟩ := hd (by omega)
      obtain ⟨c0, c1, c2, c3, c4, m0, m1, m2, m3, m4, hra⟩ := j2 k hlt
      obtain ⟨d0, d1, d2', d3, d4, n0, n1, n2, n3, n4, hrb⟩ := o2 k hlt
      have hszx := Hsz.out l[k] (List.getElem_mem hlt)
      generalize l[k] = x at *
      have hsame := fun W (hw : Below wr.heap.size wr W) => RefSame_any x x _ _ W (hra.below (bel_go hw Hbw.out)) (hrb.below (bel_go hw Hbw.out)) hszx hszx
      obtain ⟨pe, ce, b, pm, nm, cm, ea, -, -⟩ := hra
      have ea' := agg5 ea
      obtain ⟨rfl, rfl, rfl, rfl, rfl⟩ := ea'
      obtain ⟨pe', ce', b', pm', nm', cm', eb, -, -⟩ := hrb
      have eb' := agg5 eb
      obtain ⟨rfl, rfl, rfl, rfl, rfl⟩ := eb'
      have Hsame := hid hsame
      have HS : Hid (∀ w', Below wr.heap.size wr w' → (w'.cell? ⟨w.heap.size, 0, none⟩ = some (.slice pa l.length ca) ∨ True) ∧ w'.cell? ⟨w.heap.size, 1, none⟩ = some (.slice (some ⟨bb, off, none⟩) l.length cb) ∧ w'.cell? ⟨w.heap.size + 1, 1, none⟩ = some (.slice (some ⟨bc, off', none⟩) l.length cd) ∧
          (w'.cell? ⟨bb, off + k * 5, none⟩ = some (.int .i64 x.op) ∧ w'.cell? ⟨bb, off + k * 5 + 1, none⟩ = some (.slice pe x.args.length ce) ∧ w'.cell? ⟨bb, off + k * 5 + 2, none⟩ = some (.bool b) ∧ w'.cell? ⟨bb, off + k * 5 + 3, none⟩ = some (.slice pm nm cm) ∧ w'.cell? ⟨bb, off + k * 5 + 4, none⟩ = some (.int .i64 x.sym)) ∧
          (w'.cell? ⟨bc, off' + k * 5, none⟩ = some (.int .i64 x.op) ∧ w'.cell? ⟨bc, off' + k * 5 + 1, none⟩ = some (.slice pe' x.args.length ce') ∧ w'.cell? ⟨bc, off' + k * 5 + 2, none⟩ = some (.bool b') ∧ w'.cell? ⟨bc, off' + k * 5 + 3, none⟩ = some (.slice pm' nm' cm') ∧ w'.cell? ⟨bc, off' + k * 5 + 4, none⟩ = some (.int .i64 x.sym))) := hid fun w' hb => by
        have h1 := bel_go hb Hbw.out
        have h2 := HZ.out w' (bel_go hb Hb.out)
        have ca' : ∀ o, w'.cell? ⟨bb, o, none⟩ = w.cell? ⟨bb, o, none⟩ := fun o => h1.cell (p := ⟨bb, o, none⟩) j1
        have cb' : ∀ o, w'.cell? ⟨bc, o, none⟩ = w.cell? ⟨bc, o, none⟩ := fun o => h1.cell (p := ⟨bc, o, none⟩) o1
        exact ⟨.inr trivial, h2.2.1, h2.2.2.2, ⟨(ca' _).trans m0, (ca' _).trans m1, (ca' _).trans m2, (ca' _).trans m3, (ca' _).trans m4⟩, ⟨(cb' _).trans n0, (cb' _).trans n1, (cb' _).trans n2, (cb' _).trans n3, (cb' _).trans n4⟩⟩
      clear hc hd j2 o2 m0 m1 m2 m3 m4 n0 n1 n2 n3 n4 hsame hszx ea eb Hta Htb Hi Hk Hsz
      go_upto_region 12 with fail
      refine wp_region_facts (w0 := wr) 12 0 [47, 48, 49, 50, 51, 52, 53, 54, 55, 56, 57, 58] [u47, u48, u49, u50, u51, u52, u53, u54, u55, u56, u57, u58]
        (fun i => match i with | 0 => eqD (.pointer (some ⟨w.heap.size, 1, none⟩)) | 1 => eqD (.slice (some ⟨bb, off, none⟩) l.length cb) | 2 => eqD (.int .i64 (k : Nat)) | 3 => eqD (.pointer (some ⟨bb, off + k * 5, none⟩)) | 4 => eqD (.agg #[.int .i64 x.op, .slice pe x.args.length ce, .bool b, .slice pm nm cm, .int .i64 x.sym]) | 5 => eqD (.pointer (some ⟨w.heap.size + 1, 1, none⟩)) | 6 => eqD (.slice (some ⟨bc, off', none⟩) l.length cd) | 7 => eqD (.int .i64 (k : Nat)) | 8 => eqD (.pointer (some ⟨bc, off' + k * 5, none⟩)) | 9 => eqD (.agg #[.int .i64 x.op, .slice pe' x.args.length ce', .bool b', .slice pm' nm' cm', .int .i64 x.sym]) | 10 => eqD (.bool true) | _ => eqD (.bool false)) [] (by kernel_rfl) (by kernel_rfl) (by kernel_rfl) (by kernel_rfl) (by decide) rfl (by kernel_rfl) rfl (by simp) ?he1 ?_ ?_ ?_
      case he1 => simp only [putAll, Act.put, List.setIfInBounds_toArray, List.set_cons_zero, List.set_cons_succ]
      · intro i hi; simp at hi
      · intro i o hi ho vs wx hvl hb hdep K hK
        have hvs := vlen12 hvl
        obtain ⟨s47, s48, s49, s50, s51, s52, s53, s54, s55, s56, s57, s58, rfl⟩ := hvs
        clear hvl
        have hk := HS.out wx hb
        go_split_ands
        rcases i with _ | _ | _ | _ | _ | _ | _ | _ | _ | _ | _ | _ | i
        all_goals (simp only [List.getElem?_toArray, List.getElem?_cons_zero, List.getElem?_cons_succ, Option.some.injEq] at ho)
        all_goals try (subst ho)
        all_goals try simp only [putAll, Act.put, List.setIfInBounds_toArray, List.set_cons_zero, List.set_cons_succ]
        · go_simp
          have hK' := hK.out
          simp only [putAll, Act.put, List.setIfInBounds_toArray, List.set_cons_zero, List.set_cons_succ] at hK'
          exact hK' _ _ rfl (Below.refl _ _) (by simp)
        · have e0 : s47 = _ := hdep ⟨0, .data⟩ (by simp) rfl
          have e0 := e0.symm
          subst e0
          go_simp
          have hK' := hK.out
          simp only [putAll, Act.put, List.setIfInBounds_toArray, List.set_cons_zero, List.set_cons_succ] at hK'
          exact hK' _ _ rfl (Below.refl _ _) (by simp)
        · go_simp
          have hK' := hK.out
          simp only [putAll, Act.put, List.setIfInBounds_toArray, List.set_cons_zero, List.set_cons_succ] at hK'
          exact hK' _ _ rfl (Below.refl _ _) (by simp)
        · have e1 : s48 = _ := hdep ⟨1, .data⟩ (by simp) rfl
          have e1 := e1.symm
          subst e1
          have e2 : s49 = _ := hdep ⟨2, .data⟩ (by simp) rfl
          have e2 := e2.symm
          subst e2
          go_simp
          have hK' := hK.out
          simp only [putAll, Act.put, List.setIfInBounds_toArray, List.set_cons_zero, List.set_cons_succ] at hK'
          exact hK' _ _ rfl (Below.refl _ _) (by simp)
        · have e3 : s50 = _ := hdep ⟨3, .data⟩ (by simp) rfl
          have e3 := e3.symm
          subst e3
          go_simp
          have hK' := hK.out
          simp only [putAll, Act.put, List.setIfInBounds_toArray, List.set_cons_zero, List.set_cons_succ] at hK'
          exact hK' _ _ rfl (Below.refl _ _) (by simp)
        · go_simp
          have hK' := hK.out
          simp only [putAll, Act.put, List.setIfInBounds_toArray, List.set_cons_zero, List.set_cons_succ] at hK'
          exact hK' _ _ rfl (Below.refl _ _) (by simp)
        · have e5 : s52 = _ := hdep ⟨5, .data⟩ (by simp) rfl
          have e5 := e5.symm
          subst e5
          go_simp
          have hK' := hK.out
          simp only [putAll, Act.put, List.setIfInBounds_toArray, List.set_cons_zero, List.set_cons_succ] at hK'
          exact hK' _ _ rfl (Below.refl _ _) (by simp)
        · go_simp
          have hK' := hK.out
          simp only [putAll, Act.put, List.setIfInBounds_toArray, List.set_cons_zero, List.set_cons_succ] at hK'
          exact hK' _ _ rfl (Below.refl _ _) (by simp)
        · have e6 : s53 = _ := hdep ⟨6, .data⟩ (by simp) rfl
          have e6 := e6.symm
          subst e6
          have e7 : s54 = _ := hdep ⟨7, .data⟩ (by simp) rfl
          have e7 := e7.symm
          subst e7
          go_simp
          have hK' := hK.out
          simp only [putAll, Act.put, List.setIfInBounds_toArray, List.set_cons_zero, List.set_cons_succ] at hK'
          exact hK' _ _ rfl (Below.refl _ _) (by simp)
        · have e8 : s55 = _ := hdep ⟨8, .data⟩ (by simp) rfl
          have e8 := e8.symm
          subst e8
          go_simp
          have hK' := hK.out
          simp only [putAll, Act.put, List.setIfInBounds_toArray, List.set_cons_zero, List.set_cons_succ] at hK'
          exact hK' _ _ rfl (Below.refl _ _) (by simp)
        · have e4 : s51 = _ := hdep ⟨4, .data⟩ (by simp) rfl
          have e4 := e4.symm
          subst e4
          have e9 : s56 = _ := hdep ⟨9, .data⟩ (by simp) rfl
          have e9 := e9.symm
          subst e9
          go_simp
          go_simp
          refine (Hsame.out _ hb).mono ?_
          rintro e wy ⟨rfl, hby⟩
          go_wp2_with fail
          have hK' := hK.out
          simp only [putAll, Act.put, List.setIfInBounds_toArray, List.set_cons_zero, List.set_cons_succ] at hK'
          exact hK' _ _ rfl hby (by simp)
        · have e10 : s57 = _ := hdep ⟨10, .data⟩ (by simp) rfl
          have e10 := e10.symm
          subst e10
          go_simp
          have hK' := hK.out
          simp only [putAll, Act.put, List.setIfInBounds_toArray, List.set_cons_zero, List.set_cons_succ] at hK'
          exact hK' _ _ rfl (Below.refl _ _) (by simp)
        · omega
      · intro vs wx hvl hb hf hdist
        have hvs := vlen12 hvl
        obtain ⟨s47, s48, s49, s50, s51, s52, s53, s54, s55, s56, s57, s58, rfl⟩ := hvs
        have f11 : s58 = .bool false := hf 11 (by decide)
        subst f11
        clear hf hdist hvl
        refine wpAny_done (by kernel_rfl) ?_ _
        simp only [putAll, Act.put, List.setIfInBounds_toArray, List.set_cons_zero, List.set_cons_succ]
        have Hb9 := hid (Hb.out.trans (hb.mono Hb.out.size))
        clear Hb Hbw hb HS
        go_wp2_with fail
        go_roundw
        case rel => exact ⟨k + 1, by omega, rfl, Hb9⟩
        case measure => simp [intOf]; omega
end Go.Proofs.YtmdkfpidohcafaaDoor
/- PoolAgain answers true. -/
namespace Go.Proofs.YtmdkfpidohcafaaDoor
open Go.RowKit Big Go.WideMaps

/-- a pool whose terms, made one behind the other, come to their own places -/
def PoSelf (p : Po) : Prop := p.sorts.length = p.terms.length ∧ ∀ k (h : k < p.terms.length), plMake ⟨p.syms, p.terms.take k, p.sorts.take k⟩ p.terms[k] = (⟨p.syms, p.terms.take (k + 1), p.sorts.take (k + 1)⟩, ((k : Nat) : Int), 0)
theorem PoSelf.make {p : Po} (t : Tm) (h : PoSelf p) : PoSelf (plMake p t).1 ∧ (plMake p t).1.syms = p.syms ∧ ∀ x ∈ (plMake p t).1.terms, x ∈ p.terms ∨ x = t := by
  by_cases hw : plWrong p t = 0
  · cases hf : plFind p.terms t with
    | some k => rw [plMake_there hw hf]; exact ⟨h, rfl, fun x hx => .inl hx⟩
    | none =>
      by_cases h4 : p.terms.length = 4096
      · rw [plMake_full hw hf h4]; exact ⟨h, rfl, fun x hx => .inl hx⟩
      · have hm := plMake_new hw hf h4
        rw [hm]
        obtain ⟨h1, h2⟩ := h
        refine ⟨⟨by simp [h1], fun k hk => ?_⟩, rfl, fun x hx => by simpa using hx⟩
        have hk' : k < p.terms.length + 1 := by simpa using hk
        by_cases hlt : k < p.terms.length
        · show plMake ⟨p.syms, (p.terms ++ [t]).take k, (p.sorts ++ [plSort p t]).take k⟩ (p.terms ++ [t])[k] = (⟨p.syms, (p.terms ++ [t]).take (k + 1), (p.sorts ++ [plSort p t]).take (k + 1)⟩, ((k : Nat) : Int), 0)
          rw [List.take_append_of_le_length (by omega), List.take_append_of_le_length (by omega), List.take_append_of_le_length (by omega), List.take_append_of_le_length (by omega), List.getElem_append_left hlt]
          exact h2 k hlt
        · have e : k = p.terms.length := by omega
          subst e
          have e1 : (p.terms ++ [t]).take p.terms.length = p.terms := by simp
          have e2 : (p.sorts ++ [plSort p t]).take p.terms.length = p.sorts := by rw [← h1]; simp
          have e3 : (p.terms ++ [t]).take (p.terms.length + 1) = p.terms ++ [t] := List.take_of_length_le (by simp)
          have e4 : (p.sorts ++ [plSort p t]).take (p.terms.length + 1) = p.sorts ++ [plSort p t] := List.take_of_length_le (by simp [h1])
          have e5 : (p.terms ++ [t])[p.terms.length]'(by simp) = t := by simp
          show plMake ⟨p.syms, (p.terms ++ [t]).take p.terms.length, (p.sorts ++ [plSort p t]).take p.terms.length⟩ ((p.terms ++ [t])[p.terms.length]'(by simp)) = (⟨p.syms, (p.terms ++ [t]).take (p.terms.length + 1), (p.sorts ++ [plSort p t]).take (p.terms.length + 1)⟩, ((p.terms.length : Nat) : Int), 0)
          rw [e1, e2, e3, e4, e5]
          exact hm
  · rw [plMake_bad hw]; exact ⟨h, rfl, fun x hx => .inl hx⟩
theorem PoSelf.news {p : Po} (h : PoSelf p) : ∀ (n k : Nat), k + n = p.terms.length → (plNews ⟨p.syms, p.terms.take k, p.sorts.take k⟩ (p.terms.drop k)).2 = 0
  | 0, k, e => by rw [List.drop_of_length_le (by omega)]; rfl
  | n + 1, k, e => by
    have hk : k < p.terms.length := by omega
    rw [List.drop_eq_getElem_cons hk]
    have hnew : plNew ⟨p.syms, p.terms.take k, p.sorts.take k⟩ p.terms[k] = (⟨p.syms, p.terms.take (k + 1), p.sorts.take (k + 1)⟩, ((k : Nat) : Int), 0) := by
      unfold plNew
      rw [h.2 k hk, if_neg]
      intro h3
      have h4 := h3.2
      simp only [List.length_take] at h4
      omega
    unfold plNews
    rw [hnew, if_neg (by simp)]
    exact PoSelf.news h n (k + 1) (by omega)
theorem PoSelf.check {p : Po} (h : PoSelf p) (hs : plNewErr p.syms = 0) : plCheck p.syms p.terms = 0 := by
  unfold plCheck
  rw [if_neg (by simp [hs])]
  have := h.news p.terms.length 0 (by omega)
  rwa [List.drop_zero, List.take_zero, List.take_zero] at this
theorem RowsOwn.mono {B B' : Nat} {w : World} {v : Value} {s : List Sy} {t : List Tm} (h : RowsOwn B w v s t) (hb : B' ≤ B) : RowsOwn B' w v s t := by
  obtain ⟨a, b, h1, h2, h3⟩ := h
  exact ⟨a, b, h1, ownsRow_mono h2 hb, h3.mono hb⟩
theorem again_base {S S' : Nat → Prop} {n : Nat} {w w' : World} (h : ∀ i, S i → n ≤ i) (h' : ∀ k, S' k → S k ∨ w'.heap.size ≤ k) (hn : n ≤ w.heap.size) (hb : Below w.heap.size w w') : ∀ i, S' i → n ≤ i := fun i hi => by
  rcases h' i hi with h1 | h1
  · exact h i h1
  · have := hb.size; omega
theorem again_below {w w1 w2 w3 : World} {S : Nat → Prop} (h12 : Below w1.heap.size w1 w2) (h : Below w.heap.size w w1) (hA : Apart S w2 w3) (hS : ∀ i, S i → w.heap.size ≤ i) : Below w.heap.size w w3 :=
  (bel_go h12 h).trans (hA.below (B := w.heap.size) (bel_go h12 h).size hS)
/-- the first loop: the pool that is made -/
def AgainP (w : World) (L : List Tm) (sy : List Sy) (g : Nat) (wr : World) : Prop := ∃ pk Sk, PoAt wr Sk g pk ∧ (∀ i, Sk i → w.heap.size ≤ i) ∧ PoSelf pk ∧ pk.syms = sy ∧ (∀ x ∈ pk.terms, x ∈ L) ∧ Below w.heap.size w wr
/-- the second loop: the pool that is made again -/
def AgainQ (w : World) (p : Po) (g k : Nat) (wr : World) : Prop := ∃ Sk, PoAt wr Sk g ⟨p.syms, p.terms.take k, p.sorts.take k⟩ ∧ (∀ i, Sk i → w.heap.size ≤ i) ∧ Below w.heap.size w wr
set_option maxRecDepth 100000 in
set_option maxHeartbeats 25600000 in
theorem lawAgain_any (va vb : Value) (sy : List Sy) (tx : List Tx) (w : World) (htab : Tb w.heap.size w) (hs : SyIn w va sy) (ht : TxsIn w vb tx) (hn : ∀ s ∈ sy, s.name.length ≤ 281474976710656) :
    Calls Tryd.prog 6 #[va, vb] w (RBool true w) := by
  have Hs := hid hs; have Ht := hid ht; have Htab := hid htab; have Hn := hid hn
  have hsm := ht.small
  obtain ⟨pa, ca, rfl, i1, i2, -, -⟩ := hs
  obtain ⟨pb, cb, rfl, j1, j2, -, -⟩ := ht
  unfold maxLen at i2 j2
  have Hfx := hid (fixed_any w.heap.size w (Nat.le_refl _) htab)
  clear htab hn
  go_enter Tryd.func6, Tryd.ntmps6
  go_wp2_with fail
  refine Hfx.out.mono ?_
  rintro e w1 ⟨rfl, b1⟩
  have Hb1 := hid b1
  clear b1 Hfx
  cases h300 : decide ((300 : Int) < (sy.length : Nat))
  case true =>
    go_wp2
    go_ret
    exact ⟨rfl, Hb1.out⟩
  case false =>
  have Hfew := hid (RFew_any (.slice none 0 0) _ [] tx w1 (SyIn.nil w1) (Ht.out.below Hb1.out))
  go_wp2_with fail
  refine Hfew.out.mono ?_
  rintro e w2 ⟨rfl, b2⟩
  have Hb2 := hid (bel_go b2 Hb1.out)
  clear b2 Hfew Hb1
  cases hfew : plFew [] tx
  case false =>
    go_wp2
    go_ret
    exact ⟨rfl, Hb2.out⟩
  case true =>
  have hft := few_tm hfew
  have Htm := hid (Ht.out.tms fun x hx => Nat.le_trans (hft x hx).2 (by decide))
  have Hft : Hid (∀ t ∈ tx.map Tx.tm, t.args.length ≤ 70 ∧ sz W t.num.natAbs ≤ 8) := hid (fun t h => by
    obtain ⟨x, hx, rfl⟩ := List.mem_map.1 h
    exact ⟨(hft x hx).1, few_sz x (hft x hx).2 (hsm x hx)⟩)
  have HL := hid (show (tx.map Tx.tm).length = tx.length by simp)
  clear hft hfew hsm Ht
  generalize tx.map Tx.tm = L at *
  have Hnew := hid (New_any _ sy w2 (Hs.out.below Hb2.out) Hn.out)
  go_wp2_with fail
  refine Hnew.out.mono ?_
  rintro e w3 ⟨hbad, hok, b3⟩
  have Hb3 := hid (bel_go b3 Hb2.out)
  have hz3 := Hb2.out.size
  clear b3 Hnew
  by_cases hne : plNewErr sy = 0
  case neg =>
    obtain rfl := hbad hne
    clear hok hbad
    generalize plNewErr sy = er at *
    have hbt : (er != 0) = true := by simpa using hne
    go_wp2_with fail
    go_ret
    exact ⟨rfl, Hb3.out⟩
  case pos =>
  obtain ⟨g, S, rfl, hp, hS⟩ := hok hne
  have Hat : Hid (AgainP w L sy g w3) := hid ⟨_, S, hp, fun i hi => by have := hS i hi; omega, ⟨rfl, fun k h => absurd h (by simp)⟩, rfl, (fun x h => absurd h (by simp)), Hb3.out⟩
  have Hne := hid hne
  clear hok hbad hp hS Hb3 h300 hne Hb2 hz3 Hs
  go_wp2_with fail
  go_loopw [36] (fun i wr => ∃ k : Nat, k ≤ tx.length ∧ i = .int .i64 (k : Nat) ∧ Hid (AgainP w L sy g wr)) (fun i _ => tx.length - (intOf i).toNat)
  case atStart => exact ⟨0, Nat.zero_le _, rfl, Hat⟩
  case round =>
    obtain ⟨k, hk, rfl, Hk⟩ := hrel
    obtain ⟨pk, Sk, hp, hS, hself, hsy, hin, hb⟩ := Hk.out
    by_cases hlt : k < tx.length
    · have hlt' : (k : Int) < (tx.length : Nat) := by omega
      have hltL : k < L.length := by rw [HL.out]; exact hlt
      obtain ⟨pp, cc, e5, -, -, -, hc⟩ := Htm.out.below hb
      injection e5 with a5 b5 c5
      subst a5
      subst c5
      obtain ⟨bb, off, rfl, k1, k2⟩ := hc (by omega)
      obtain ⟨c0, c1, c2, c3, c4, m0, m1, m2, m3, m4, hraw⟩ := k2 k hltL
      have hns := (Hft.out L[k] (List.getElem_mem hltL)).1
      have hxm := List.getElem_mem hltL
      have htb := Lib.TabBelow.on Htab.out hb
      have hBr := hb.size
      have hdc := fun W (hw : Below wr.heap.size wr W) => Make_any w.heap.size Sk g pk L[k] _ W (hp.below hw) (Nat.le_trans hBr hw.size) (Lib.TabBelow.on htb (hw.mono hBr)) (hraw.below hw) (Nat.le_trans hns (by decide))
      have hmk := hself.make L[k]
      generalize L[k] = x at *
      generalize hrr : plMake pk x = rr at *
      obtain ⟨p2, n2, er⟩ := rr
      dsimp only at *
      obtain ⟨pa', ca', b, pm, nm, cm, ea, -, -⟩ := hraw
      cases ea
      have Hdc := hid hdc; have Hmk := hid hmk; have HS := hid hS; have Hb := hid hb; have Hin := hid hin; have Hxm := hid hxm; have Hsy := hid hsy
      have bx := below1 wr (.cells #[.int .i64 x.op, .slice pa' x.args.length ca', .bool b, .slice pm nm cm, .int .i64 x.sym] 39)
      clear k2 hns hdc hp hS hb Hk hrr htb hmk hin hxm hsy hself hc b5
      go_wp2_with fail
      refine (Hdc.out _ bx).mono ?_
      rintro e w4 ⟨rfl, S4, hp4, hS4, hA4⟩
      have Hk4 := hid (show AgainP w L sy g w4 from ⟨p2, S4, hp4, again_base HS.out hS4 hBr bx, Hmk.out.1, Hmk.out.2.1.trans Hsy.out, fun y hy => (Hmk.out.2.2 y hy).elim (Hin.out y) (fun e => e ▸ Hxm.out), again_below bx Hb.out hA4 HS.out⟩)
      clear hp4 hS4 hA4 bx
      go_wp2_with fail
      go_roundw
      case rel => exact ⟨k + 1, by omega, rfl, Hk4⟩
      case measure => simp [intOf]; omega
    · have hkk : k = tx.length := by omega
      subst hkk
      have Hrows := hid (Rows_any Sk g pk wr hp)
      have hsm : ∀ t ∈ pk.terms, t.args.length ≤ 70 ∧ sz W t.num.natAbs ≤ 8 := fun t h => Hft.out t (hin t h)
      have Hsm := hid hsm; have Hself := hid hself; have Hb := hid hb; have Hne' := hid (show plNewErr pk.syms = 0 by rw [hsy]; exact Hne.out)
      have Hn' := hid (show ∀ s ∈ pk.syms, s.name.length ≤ 281474976710656 by rw [hsy]; exact Hn.out)
      have Hso := hid hp.2.1.sorts
      have h4096 := hp.2.1.terms
      clear hlt hp hS hself hsy hin hb Hk hsm Hat Hne Hn
      obtain ⟨syms, terms, sorts⟩ := pk
      dsimp only at *
      go_wp2_with fail
      refine Hrows.out.mono ?_
      rintro e w5 ⟨vr, rfl, hro, b5⟩
      obtain ⟨va, vb, rfl, hsy, htms⟩ := hro
      have hin5 := htms.in (fun t h => Nat.le_trans (Hsm.out t h).2 (by decide))
      have hsy5 := (SyAt.own (ownsRow_mono hsy (Nat.zero_le _))).handed
      obtain ⟨pq, cq, rfl⟩ := ownsRow_shape hsy
      obtain ⟨cst, hrt, -⟩ := htms
      obtain ⟨pt, ct, rfl⟩ := ownsRow_shape hrt
      have bx := below1 w5 (.cells #[.slice pq syms.length cq, .slice pt terms.length ct] 27)
      have hx6 := heap_alloc_new w5 (.cells #[.slice pq syms.length cq, .slice pt terms.length ct] 27)
      have hz6 := size_alloc w5 (.cells #[.slice pq syms.length cq, .slice pt terms.length ct] 27)
      have Hin6 := hid (hin5.below bx)
      have Hsy6 := hid (hsy5.below bx)
      have Hb6 := hid (bel_go bx (bel_go b5 Hb.out))
      clear hsy hrt b5 Hrows hin5 hsy5 bx Hb
      go_wp2_with fail
      generalize hW6 : (w5.alloc (.cells #[.slice pq syms.length cq, .slice pt terms.length ct] 27)) = w6 at *
      obtain ⟨G, hG⟩ : ∃ G, G = w5.heap.size := ⟨_, rfl⟩
      rw [← hG] at hx6 hz6 ⊢
      have hGz : G < w6.heap.size := by omega
      have Hx6 := hid hx6
      clear hW6 hG hz6 hx6
      have Hnew := hid (New_any _ syms w6 Hsy6.out Hn'.out)
      refine Hnew.out.mono ?_
      rintro e w7 ⟨-, hok, b7⟩
      obtain ⟨gq, Sq, rfl, hq, hSq⟩ := hok Hne'.out
      have hx7 := (b7.block G hGz).trans Hx6.out
      have Hx7 := hid hx7
      have htb7 := Lib.TabBelow.on Htab.out (bel_go b7 Hb6.out)
      have Hck := hid (Check_any w.heap.size _ _ syms terms w7 (bel_go b7 Hb6.out).size htb7 (Hsy6.out.below b7) (Hin6.out.below b7) Hn'.out (fun t h => Nat.le_trans (Hsm.out t h).1 (by decide)))
      have hck0 : plCheck syms terms = 0 := Hself.out.check Hne'.out
      rw [hck0] at Hck
      have q := two_cells hx7
      obtain ⟨z0, z1, -, -⟩ := q
      have Hq := hid hq; have HSq := hid hSq; have Hb7 := hid b7
      clear hx7 Hnew hok b7 hq hSq hck0 htb7
      go_wp2_with fail
      refine Hck.out.mono ?_
      rintro e w8 ⟨rfl, b8⟩
      have h78 := Hb7.out.size
      have hx8 := (b8.block G (by omega)).trans Hx7.out
      have Hq8 : Hid (AgainQ w6 ⟨syms, terms, sorts⟩ gq 0 w8) := hid ⟨Sq, Hq.out.below b8, fun i hi => HSq.out i hi, bel_go b8 Hb7.out⟩
      have q := two_cells hx8
      clear z0 z1 Hck
      obtain ⟨z0, z1, -, -⟩ := q
      clear b8 hx8 Hq HSq Hb7 Hx7
      go_wp2_with fail
      go_loopw [62] (fun i wr => ∃ k : Nat, k ≤ terms.length ∧ i = .int .i64 (k : Nat) ∧ Hid (AgainQ w6 ⟨syms, terms, sorts⟩ gq k wr)) (fun i _ => terms.length - (intOf i).toNat)
      case atStart => exact ⟨0, Nat.zero_le _, rfl, Hq8⟩
      case round =>
        obtain ⟨k, hk, rfl, Hk⟩ := hrel
        obtain ⟨Sk, hp, hS, hb⟩ := Hk.out
        by_cases hlt : k < terms.length
        case pos =>
          have hlt' : (k : Int) < (terms.length : Nat) := by omega
          obtain ⟨pp, cc, e5, -, -, -, hc⟩ := Hin6.out.below hb
          injection e5 with a5 b5 c5
          subst a5
          subst c5
          obtain ⟨bb, off, rfl, k1, k2⟩ := hc (by omega)
          obtain ⟨c0, c1, c2, c3, c4, m0, m1, m2, m3, m4, hraw⟩ := k2 k hlt
          have hns := (Hsm.out terms[k] (List.getElem_mem hlt)).1
          have hBr := Nat.le_trans Hb6.out.size hb.size
          have htb := Lib.TabBelow.on Htab.out (bel_go hb Hb6.out)
          have hdc := fun W (hw : Below wr.heap.size wr W) => Make_any w.heap.size Sk gq ⟨syms, terms.take k, sorts.take k⟩ terms[k] _ W (hp.below hw) (Nat.le_trans hBr hw.size) (Lib.TabBelow.on htb (hw.mono hBr)) (hraw.below hw) (Nat.le_trans hns (by decide))
          have hmk := Hself.out.2 k hlt
          dsimp only at hmk
          rw [hmk] at hdc
          generalize terms[k] = x at *
          obtain ⟨pa', ca', b, pm, nm, cm, ea, -, -⟩ := hraw
          cases ea
          have Hdc := hid hdc; have HS := hid hS; have Hb := hid hb
          have bx := below1 wr (.cells #[.int .i64 x.op, .slice pa' x.args.length ca', .bool b, .slice pm nm cm, .int .i64 x.sym] 39)
          have hb6r := hb.size
          clear k2 hns hdc hp hS hb Hk htb hmk hc b5
          go_wp2_with fail
          refine (Hdc.out _ bx).mono ?_
          rintro e w9 ⟨rfl, S9, hp9, hS9, hA9⟩
          have Hk9 := hid (show AgainQ w6 ⟨syms, terms, sorts⟩ gq (k + 1) w9 from ⟨S9, hp9, again_base HS.out hS9 hb6r bx, again_below bx Hb.out hA9 HS.out⟩)
          clear hp9 hS9 hA9 bx
          go_wp2_with fail
          go_roundw
          case rel => exact ⟨k + 1, by omega, rfl, Hk9⟩
          case measure => simp [intOf]; omega
        case neg =>
          have hkk : k = terms.length := by omega
          subst hkk
          have e1 : terms.take terms.length = terms := List.take_length
          have e2 : sorts.take terms.length = sorts := by have := Hso.out; rw [← this]; exact List.take_length
          dsimp only at hp
          rw [e1, e2] at hp
          have Hrw := hid (fun W (hw : Below wr.heap.size wr W) => Rows_any Sk gq ⟨syms, terms, sorts⟩ W (hp.below hw))
          have HS : Hid (∀ w', Below wr.heap.size wr w' → w'.cell? ⟨G, 0, none⟩ = some (.slice pq syms.length cq) ∧ w'.cell? ⟨G, 1, none⟩ = some (.slice pt terms.length ct)) := hid fun w' hw =>
            have hx := (hw.block G (by have := hb.size; omega)).trans ((hb.block G hGz).trans Hx6.out)
            ⟨(two_cells hx).1, (two_cells hx).2.1⟩
          have Hsr : Hid (∀ (v : Value) (W : World), RowsOwn wr.heap.size W v syms terms → Below wr.heap.size wr W → Calls Tryd.prog 18 #[v, .agg #[.slice pq syms.length cq, .slice pt terms.length ct]] W (RBool true W)) := hid fun v W ho hw => by
            obtain ⟨a, b, rfl, hs9, ht9⟩ := ho
            exact SameRows_true _ _ syms terms W ⟨_, _, rfl, (SyAt.own (ownsRow_mono hs9 (Nat.zero_le _))).handed, ht9.in (fun t h => Nat.le_trans (Hsm.out t h).2 (by decide))⟩
              ⟨_, _, rfl, Hsy6.out.below (bel_go hw hb), Hin6.out.below (bel_go hw hb)⟩ (fun t h => Nat.le_trans (Hsm.out t h).2 (by decide))
          have Hbw := hid (bel_go hb Hb6.out)
          clear hp hS hb Hk e1 e2 hlt z0 z1
          go_upto_region 24 with fail
          refine wp_region_facts (w0 := wr) 5 0 [81, 82, 83, 84, 4] [undef, undef, undef, undef, u4]
            (fun i => match i with | 0 => eqD (.pointer (some ⟨gq, 0, none⟩)) | 1 => rowsF wr.heap.size syms terms | 2 => eqD (.agg #[.slice pq syms.length cq, .slice pt terms.length ct]) | 3 => eqD (.bool true) | _ => eqD (.bool true)) [] (by kernel_rfl) (by kernel_rfl) (by kernel_rfl) (by kernel_rfl) (by decide) rfl (by kernel_rfl) rfl (by simp) ?he1 ?_ ?_ ?_
          case he1 => simp only [putAll, Act.put, List.setIfInBounds_toArray, List.set_cons_zero, List.set_cons_succ]
          · intro i hi; simp at hi
          · intro i o hi ho vs wx hvl hb hdep K hK
            have hvs := vlen5 hvl
            obtain ⟨s81, s82, s83, s84, s4, rfl⟩ := hvs
            clear hvl
            have hk := HS.out wx hb
            go_split_ands
            rcases i with _ | _ | _ | _ | _ | i
            all_goals (simp only [List.getElem?_toArray, List.getElem?_cons_zero, List.getElem?_cons_succ, Option.some.injEq] at ho)
            all_goals try (subst ho)
            all_goals try simp only [putAll, Act.put, List.setIfInBounds_toArray, List.set_cons_zero, List.set_cons_succ]
            · go_simp
              have hK' := hK.out
              simp only [putAll, Act.put, List.setIfInBounds_toArray, List.set_cons_zero, List.set_cons_succ] at hK'
              exact hK' _ _ rfl (Below.refl _ _) (by simp)
            · have e0 : s81 = _ := hdep ⟨0, .data⟩ (by simp) rfl
              have e0 := e0.symm
              subst e0
              go_simp
              go_simp
              refine (Hrw.out _ hb).mono ?_
              rintro e wy ⟨v', rfl, ho, hby⟩
              go_wp2_with fail
              have hK' := hK.out
              simp only [putAll, Act.put, List.setIfInBounds_toArray, List.set_cons_zero, List.set_cons_succ] at hK'
              exact hK' _ _ (ho.mono hb.size) hby (by simp)
            · go_simp
              have hK' := hK.out
              simp only [putAll, Act.put, List.setIfInBounds_toArray, List.set_cons_zero, List.set_cons_succ] at hK'
              exact hK' _ _ rfl (Below.refl _ _) (by simp)
            · have e1 : (rowsF wr.heap.size syms terms).P s82 wx := hdep ⟨1, .data⟩ (by simp) rfl
              have e2 : s83 = _ := hdep ⟨2, .data⟩ (by simp) rfl
              have e2 := e2.symm
              subst e2
              go_simp
              have ho := (show RowsOwn wr.heap.size wx s82 syms terms from e1)
              have hsr := Hsr.out _ wx ho hb
              go_simp
              refine hsr.mono ?_
              rintro e wy ⟨rfl, hby⟩
              go_wp2_with fail
              have hK' := hK.out
              simp only [putAll, Act.put, List.setIfInBounds_toArray, List.set_cons_zero, List.set_cons_succ] at hK'
              exact hK' _ _ rfl hby (by simp)
            · have e3 : s84 = _ := hdep ⟨3, .data⟩ (by simp) rfl
              have e3 := e3.symm
              subst e3
              go_simp
              have hK' := hK.out
              simp only [putAll, Act.put, List.setIfInBounds_toArray, List.set_cons_zero, List.set_cons_succ] at hK'
              exact hK' _ _ rfl (Below.refl _ _) (by simp)
            · omega
          · intro vs wx hvl hb hf hdist
            have hvs := vlen5 hvl
            obtain ⟨s81, s82, s83, s84, s4, rfl⟩ := hvs
            have f4 : s4 = .bool true := hf 4 (by decide)
            clear hf hdist hvl
            subst f4
            refine wpAny_done (by kernel_rfl) ?_ _
            try simp only [putAll, Act.put, List.setIfInBounds_toArray, List.set_cons_zero, List.set_cons_succ]
            go_wp2
            go_ret
            exact ⟨rfl, bel_go hb Hbw.out⟩
end Go.Proofs.YtmdkfpidohcafaaDoor
