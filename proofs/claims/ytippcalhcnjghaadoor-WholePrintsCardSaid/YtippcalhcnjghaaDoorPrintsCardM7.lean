/- Texts put together: RefGcd, Late, Tens, Builder, PrintSmall, ParseBad, IsSize, Parse, PadMath, Fmt. -/
import Derived.Test.YtippcalhcnjghaaDoorPrintsCardM6
import Derived.Lib.Builder
import Derived.Lib.AppendStr
import Derived.OneCell
import Derived.Lib.Strings
import Derived.Lib.ItoaNum
import Derived.Lib.ItoaMem
import Derived.Lib.AppendIntMem
import Derived.BigGuard
/- elenchusref01.Gcd. -/
namespace Go.Proofs.YtippcalhcnjghaaDoor
open Go.RowKit Big

theorem len8 {vs : List Value} (h : vs.length = 8) : ∃ a b c d e f g h, vs = [a, b, c, d, e, f, g, h] := by
  match vs, h with
  | [a, b, c, d, e, f, g, h], _ => exact ⟨a, b, c, d, e, f, g, h, rfl⟩

set_option maxRecDepth 100000 in
set_option maxHeartbeats 6400000 in
theorem RGcd_any (v0 v1 : Value) (a b : Int) (w : World) (h0 : RawAt w v0 a) (h1 : RawAt w v1 b) (ha : sz W a.natAbs ≤ 549755813888) (hbs : sz W b.natAbs ≤ 549755813888) :
    Calls Tryd.prog 29 #[v0, v1] w (RInt (Nat.gcd a.natAbs b.natAbs : Nat) w) := by
  obtain ⟨n0, s0, l0, rfl, a0, b0, c0, rfl⟩ := h0
  obtain ⟨n1, s1, l1, rfl, a1, b1, c1, rfl⟩ := h1
  rw [sg_natAbs] at ha hbs ⊢
  rw [sg_natAbs]
  have g0 : ∀ W', Below w.heap.size w W' → Calls Tryd.prog 24 #[.bool false, s0] W' (RInt (val W l0 : Nat) W') := fun W' hb => by
    have := Whole_any false s0 l0 W' (a0.below hb) b0 (by omega)
    simpa [sg] using this
  have g1 : ∀ W', Below w.heap.size w W' → Calls Tryd.prog 24 #[.bool false, s1] W' (RInt (val W l1 : Nat) W') := fun W' hb => by
    have := Whole_any false s1 l1 W' (a1.below hb) b1 (by omega)
    simpa [sg] using this
  have G0 := hid g0; have G1 := hid g1
  clear g0 g1 a0 a1 b0 b1 c0 c1
  generalize val W l0 = x at *
  generalize val W l1 = y at *
  obtain ⟨G, hG⟩ : ∃ G, G = Nat.gcd x y := ⟨_, rfl⟩
  rw [← hG]
  have HG := hid hG
  clear hG
  go_enter Tryd.func29, Tryd.ntmps29
  go_wp2_with fail
  generalize hW : World.alloc (World.alloc (World.alloc w _) _) _ = W3
  have bw : Below w.heap.size w W3 := by rw [← hW]; exact ((below1 _ _).alloc (by simp) _).alloc (by simp; omega) _
  have hp : Pair W3 (w.heap.size + 1 + 1) 25 := by rw [← hW]; exact Pair.new2 ..
  have tw : Two W3 w.heap.size (.bool n0) s0 (.bool n1) s1 := by rw [← hW]; exact (Two.new w _ _ _ _ _).below (below1 _ _)
  have z3 : w.heap.size + 3 ≤ W3.heap.size := by rw [← hW]; simp
  have bw' := hid bw; have HT := hid tw; have Hp := hid hp
  clear hW bw tw hp
  have HS : Hid (∀ w', Below W3.heap.size W3 w' → w'.cell? ⟨w.heap.size, 1, none⟩ = some s0 ∧ w'.cell? ⟨w.heap.size + 1, 1, none⟩ = some s1) := by
    intro w' hb
    have ht := HT.out.below hb
    exact ⟨ht.c01, ht.c11⟩
  have HBW : Hid (∀ w', Below W3.heap.size W3 w' → Below w.heap.size w w') := fun w' hb => bw'.out.trans (hb.mono (by omega))
  go_upto_region 1 with fail
  go_cut [5, 6] (fun s5 s6 wx => ∃ g5 g6, s5 = .pointer (some ⟨g5, 0, none⟩) ∧ s6 = .pointer (some ⟨g6, 0, none⟩) ∧ g5 ≠ g6 ∧ W3.heap.size ≤ g5 ∧ W3.heap.size ≤ g6 ∧ IntCell wx g5 (x : Nat) ∧ IntCell wx g6 (y : Nat) ∧ Below W3.heap.size W3 wx)
  case first =>
    rename_i Jc Kc hJc hKc
    refine wp_region_facts (w0 := W3) 8 2 [9, 10, 11, 12, 13, 14, 5, 6] [undef, undef, undef, undef, undef, undef, undef, undef]
      (fun i => match i with
        | 0 => eqF (.pointer (some ⟨w.heap.size, 1, none⟩)) | 1 => eqF s0 | 2 => intF (x : Nat) | 3 => eqF (.pointer (some ⟨w.heap.size + 1, 1, none⟩)) | 4 => eqF s1 | 5 => intF (y : Nat)
        | 6 => varF W3.heap.size | _ => varF W3.heap.size) [6, 7] (by kernel_rfl) (by kernel_rfl) (by kernel_rfl) (by kernel_rfl) (by decide) rfl (by kernel_rfl) rfl (by simp) ?he ?_ ?_ ?_
    case he => simp only [putAll, Act.put, List.setIfInBounds_toArray, List.set_cons_zero, List.set_cons_succ]
    · intro i hi v w' h
      simp only [List.mem_cons, List.not_mem_nil, or_false] at hi
      rcases hi with rfl | rfl
      · obtain ⟨g, hg, hp, -⟩ := (show VarAt w' W3.heap.size v from h); exact ⟨g, hg, hp.lt⟩
      · obtain ⟨g, hg, hp, -⟩ := (show VarAt w' W3.heap.size v from h); exact ⟨g, hg, hp.lt⟩
    · intro i o hi ho vs wx hvl hb hdep K hK
      have hvs := len8 hvl
      obtain ⟨s9, s10, s11, s12, s13, s14, s5, s6, rfl⟩ := hvs
      have hk := HS.out wx hb
      clear hvl
      go_split_ands
      rcases i with _ | _ | _ | _ | _ | _ | _ | _ | i
      all_goals (simp only [List.getElem?_toArray, List.getElem?_cons_zero, List.getElem?_cons_succ, Option.some.injEq] at ho)
      all_goals try (subst ho)
      all_goals try simp only [putAll, Act.put, List.setIfInBounds_toArray, List.set_cons_zero, List.set_cons_succ]
      · go_simp
        have hK' := hK.out
        simp only [putAll, Act.put, List.setIfInBounds_toArray, List.set_cons_zero, List.set_cons_succ] at hK'
        exact hK' _ _ rfl (Below.refl _ _) (by simp)
      · have d0 : s9 = _ := hdep ⟨0, .data⟩ (by simp) rfl
        subst d0
        go_simp
        have hK' := hK.out
        simp only [putAll, Act.put, List.setIfInBounds_toArray, List.set_cons_zero, List.set_cons_succ] at hK'
        exact hK' _ _ rfl (Below.refl _ _) (by simp)
      · have d1 : s10 = _ := hdep ⟨1, .data⟩ (by simp) rfl
        subst d1
        go_simp
        refine (G0.out _ (HBW.out _ hb)).mono ?_
        rintro e wy ⟨vy, rfl, iy, hby⟩
        have hsh := iy.shape
        obtain ⟨p5, n5, c5, rfl, iy⟩ := hsh
        go_wp2_with fail
        have hK' := hK.out
        simp only [putAll, Act.put, List.setIfInBounds_toArray, List.set_cons_zero, List.set_cons_succ] at hK'
        exact hK' _ _ ⟨_, _, _, _, rfl, iy⟩ hby (by simp)
      · go_simp
        have hK' := hK.out
        simp only [putAll, Act.put, List.setIfInBounds_toArray, List.set_cons_zero, List.set_cons_succ] at hK'
        exact hK' _ _ rfl (Below.refl _ _) (by simp)
      · have d3 : s12 = _ := hdep ⟨3, .data⟩ (by simp) rfl
        subst d3
        go_simp
        have hK' := hK.out
        simp only [putAll, Act.put, List.setIfInBounds_toArray, List.set_cons_zero, List.set_cons_succ] at hK'
        exact hK' _ _ rfl (Below.refl _ _) (by simp)
      · have d4 : s13 = _ := hdep ⟨4, .data⟩ (by simp) rfl
        subst d4
        go_simp
        refine (G1.out _ (HBW.out _ hb)).mono ?_
        rintro e wy ⟨vy, rfl, iy, hby⟩
        have hsh := iy.shape
        obtain ⟨p5, n5, c5, rfl, iy⟩ := hsh
        go_wp2_with fail
        have hK' := hK.out
        simp only [putAll, Act.put, List.setIfInBounds_toArray, List.set_cons_zero, List.set_cons_succ] at hK'
        exact hK' _ _ ⟨_, _, _, _, rfl, iy⟩ hby (by simp)
      · go_simp
        have hK' := hK.out
        simp only [putAll, Act.put, List.setIfInBounds_toArray, List.set_cons_zero, List.set_cons_succ] at hK'
        exact hK' _ _ ⟨_, rfl, Pair.new .., hb.size⟩ (below1 _ _) (fun _ => rfl)
      · go_simp
        have hK' := hK.out
        simp only [putAll, Act.put, List.setIfInBounds_toArray, List.set_cons_zero, List.set_cons_succ] at hK'
        exact hK' _ _ ⟨_, rfl, Pair.new .., hb.size⟩ (below1 _ _) (fun _ => rfl)
      · omega
    · intro vs wx hvl hb hf hdist
      have hvs := len8 hvl
      obtain ⟨s9, s10, s11, s12, s13, s14, s5, s6, rfl⟩ := hvs
      have f7 : (intF (x : Nat)).P s11 wx := hf 2 (by decide)
      have f12 : (intF (y : Nat)).P s14 wx := hf 5 (by decide)
      have f13 : VarAt wx W3.heap.size s5 := hf 6 (by decide)
      have f14 : VarAt wx W3.heap.size s6 := hf 7 (by decide)
      have hne : s5 ≠ s6 := hdist 6 (by simp) 7 (by simp) (by decide)
      obtain ⟨d7, p7, m7, c7, rfl, i7⟩ := f7
      obtain ⟨d12, p12, m12, c12, rfl, i12⟩ := f12
      obtain ⟨g8, rfl, hp8, hB8⟩ := f13
      obtain ⟨g9, rfl, hp9, hB9⟩ := f14
      have hgne : g8 ≠ g9 := fun e => hne (by rw [e])
      have c8 := hp8.cells
      obtain ⟨_, _, q0, q1, q2, q3⟩ := c8
      clear hf hdist hvl hne
      refine wpAny_one (i := 8) (by kernel_rfl) rfl ?_
      intro K hK
      simp only [putAll, Act.put, List.setIfInBounds_toArray, List.set_cons_zero, List.set_cons_succ]
      go_simp
      have hK' := hK.out
      apply hK'
      clear hK hK'
      have x8 := IntCell.put hp8 i7
      have hp9' := hp9.apart hgne.symm (.bool d7) (.slice p7 m7 c7)
      have i12' := i12.stored hp8 d7 p7 m7 c7
      have hb' := Below.stored hb hB8 (.bool d7) (.slice p7 m7 c7)
      clear q0 q1 q2 q3 hp8 hp9 i7 i12
      generalize ((wx.setCell ⟨g8, 0, none⟩ (.bool d7)).setCell ⟨g8, 1, none⟩ (.slice p7 m7 c7)) = wy at *
      have c9 := hp9'.cells
      obtain ⟨_, _, q0, q1, q2, q3⟩ := c9
      refine wpAny_one (i := 9) (by kernel_rfl) rfl ?_
      intro K hK
      go_simp
      have hK' := hK.out
      apply hK'
      clear hK hK'
      refine wpAny_done (by kernel_rfl) ?_ _
      refine hKc _ _ (Met.intro (hJc _ _ ?_))
      (repeat apply Exists.intro)
      exact ⟨⟨g8, g9, rfl, rfl, hgne, hB8, hB9, x8.apart hp9' hgne .., IntCell.put hp9' i12', Below.stored hb' hB9 ..⟩, rfl⟩
  case rest =>
    obtain ⟨g5, g6, rfl, rfl, hgne, hB5, hB6, C5, C6, hbc⟩ := hcut
    have hgc : Hid (Nat.gcd x y = G) := HG.out.symm
    have HBc := hid hbc
    clear hbc HG HS HBW HT G0 G1
    go_wp2_with fail
    go_loopg [] y (fun gk wr => ∃ p : Nat, IntCell wr g5 (p : Nat) ∧ IntCell wr g6 (gk : Nat) ∧ sz W p ≤ 549755813888 ∧ sz W gk ≤ 549755813888 ∧ Hid (Nat.gcd p gk = G) ∧ Hid (Below W3.heap.size W3 wr))
    case atStart => exact ⟨x, C5, C6, ha, hbs, hgc.out, HBc.out⟩
    case round =>
      obtain ⟨p, D5, D6, hp, hq, hgcd, HBr⟩ := hrel
      have t6 := D6
      obtain ⟨d6, p6, m6, c6, e6, i6⟩ := t6
      have e6' := two_cells e6
      obtain ⟨x60, x61, -, -⟩ := e6'
      by_cases h0 : gk = 0
      · have hsg := RSign_any _ _ wr (i6.raw (by show sz W gk ≤ _; omega))
        rw [h0] at hsg
        have hsg' : Hid (Calls Tryd.prog 20 #[.agg #[.bool d6, .slice p6 m6 c6]] wr (RNum .i64 0 wr)) := hsg
        have hres : Hid (p = G) := by have := hgcd.out; rw [h0, Nat.gcd_zero_right] at this; exact this
        clear hsg e6 i6 h0 hgcd
        go_wp2_with fail
        refine hsg'.out.mono ?_
        rintro e wz ⟨rfl, hbz⟩
        have HBz := hid (Below.go hbz HBr.out)
        have t5 := D5.below hbz
        obtain ⟨d5, p5, m5, c5, e5, i5⟩ := t5
        have e5' := two_cells e5
        obtain ⟨x50, x51, -, -⟩ := e5'
        have P4 := Hp.out.below HBz.out
        have P4' := P4.cells
        obtain ⟨_, _, q0, q1, q2, q3⟩ := P4'
        rw [hres.out] at i5
        have j5 := hid (i5.stored P4 d5 p5 m5 c5)
        have bz := hid (Below.stored (bw'.out.trans (HBz.out.mono (B' := w.heap.size) (by omega))) (g := w.heap.size + 1 + 1) (by omega) (.bool d5) (.slice p5 m5 c5))
        clear hbz x60 x61 e5 i5 P4
        go_wp2_with fail
        exact bodyPost_ret (v := .agg #[.bool d5, .slice p5 m5 c5]) (by simp [results, Tryd.results29, go_sem, q0, q1]) rfl ⟨_, rfl, j5.out, bz.out⟩
      · have hsg := RSign_any _ _ wr (i6.raw (by show sz W gk ≤ _; omega))
        rw [Int.sign_eq_one_of_pos (show (0 : Int) < (gk : Int) by omega)] at hsg
        have Hsg := hid hsg
        have hg' := hid ((gcd_step p gk).trans hgcd.out)
        have hlt : p % gk < gk := Nat.mod_lt _ (by omega)
        have hsz : sz W (p % gk) ≤ 549755813888 := Nat.le_trans (sz_mono W2 (Nat.le_of_lt hlt)) hq
        clear hsg e6 hgcd
        go_wp2_with fail
        refine Hsg.out.mono ?_
        rintro e wa ⟨rfl, hba⟩
        have HBa := hid (Below.go hba HBr.out)
        have A5 := D5.below hba
        have A6 := D6.below hba
        have i6' := i6.below hba
        have t5 := A5
        obtain ⟨d5, p5, m5, c5, e5, i5⟩ := t5
        have e5' := two_cells e5
        obtain ⟨x50, x51, -, -⟩ := e5'
        have c6' := (hba.cell (p := ⟨g6, 0, none⟩) (World.block_lt_of_cell? wr _ x60)).trans x60
        have c6'' := (hba.cell (p := ⟨g6, 1, none⟩) (World.block_lt_of_cell? wr _ x61)).trans x61
        have hdiv := RDiv_any _ _ _ _ wa (i5.raw (by show sz W p ≤ _; omega)) (i6'.raw (by show sz W gk ≤ _; omega)) (show ((gk : Nat) : Int) ≠ 0 by omega) hp hq
        have Hdiv := hid hdiv
        clear hba x60 x61 i6 i6' e5 hdiv D5 D6 Hsg i5
        go_wp2_with fail
        refine Hdiv.out.mono ?_
        rintro e wb ⟨vq, vr, rfl, hqq, hrr, hbb⟩
        have hqq := hqq.shape
        obtain ⟨pq, nq, cq, rfl, -⟩ := hqq
        have hrr := hrr.shape
        obtain ⟨pr, nr, cr, rfl, hrr⟩ := hrr
        have hmod : ((p : Int) % (gk : Int)) = ((p % gk : Nat) : Int) := (Int.natCast_emod p gk).symm
        rw [hmod] at hrr ⊢
        obtain ⟨dr, hdr⟩ : ∃ d, d = decide (((p % gk : Nat) : Int) < 0) := ⟨_, rfl⟩
        rw [← hdr] at hrr ⊢
        obtain ⟨dq, hdq⟩ : ∃ d, d = decide ((p : Int) / (gk : Int) < 0) := ⟨_, rfl⟩
        rw [← hdq]
        have HBb := hid (Below.go hbb HBa.out)
        have B5 := A5.below hbb
        have B6 := A6.below hbb
        clear hbb hdr hdq hmod A5 A6 x50 x51 c6' c6''
        go_upto_region 4 with fail
        generalize hW : World.alloc (World.alloc wb _) _ = wc4
        have X4 : Below wb.heap.size wb wc4 ∧ Two wc4 wb.heap.size (.bool dq) (.slice pq nq cq) (.bool dr) (.slice pr nr cr) := by
          rw [← hW]; exact ⟨((Below.refl _ _).alloc (Nat.le_refl _) _).alloc (by simp) _, Two.new ..⟩
        have HB4 := hid (Below.go X4.1 HBb.out)
        have E5 := B5.below X4.1
        have E6 := B6.below X4.1
        have hr4 := hrr.below X4.1
        have hr40 := X4.2.c10
        have hr41 := X4.2.c11
        have hl5 := B5.pair.lt
        have hl6 := B6.pair.lt
        clear hW X4 hrr B5 B6
        obtain ⟨gr, hgr⟩ : ∃ g, g = wb.heap.size + 1 := ⟨_, rfl⟩
        rw [← hgr] at hr40 hr41 ⊢
        have hgr5 : gr ≠ g5 := by omega
        have hgr6 : gr ≠ g6 := by omega
        clear hgr hl5 hl6
        have t6 := E6
        obtain ⟨d7, p7, m7, c7, e7, i7⟩ := t6
        have e7' := two_cells e7
        obtain ⟨x70, x71, -, -⟩ := e7'
        have P5 := E5.pair
        have P5' := P5.cells
        obtain ⟨_, _, q0, q1, q2, q3⟩ := P5'
        have F5 := IntCell.put P5 i7
        have F6 := E6.apart P5 hgne.symm d7 p7 m7 c7
        have fr := hr4.stored P5 d7 p7 m7 c7
        have fr0 := (cell_stored wc4 (p := ⟨gr, 0, none⟩) hgr5 (.bool d7) (.slice p7 m7 c7)).trans hr40
        have fr1 := (cell_stored wc4 (p := ⟨gr, 1, none⟩) hgr5 (.bool d7) (.slice p7 m7 c7)).trans hr41
        have HB5' := hid (Below.stored HB4.out hB5 (.bool d7) (.slice p7 m7 c7))
        clear e7 i7 hr4 hr40 hr41 E5 E6 P5
        go_upto_region 5 with fail
        generalize ((wc4.setCell ⟨g5, 0, none⟩ (.bool d7)).setCell ⟨g5, 1, none⟩ (.slice p7 m7 c7)) = w5 at *
        clear q0 q1 q2 q3 x70 x71
        have P6 := F6.pair
        have P6' := P6.cells
        obtain ⟨_, _, q0, q1, q2, q3⟩ := P6'
        have K6 := IntCell.put P6 fr
        have K5 := F5.apart P6 hgne dr pr nr cr
        have HB6 := hid (Below.stored HB5'.out hB6 (.bool dr) (.slice pr nr cr))
        clear P6 F5 F6 fr
        go_wp2_with fail
        go_roundg (p % gk)
        case measure => exact hlt
        case rel => exact ⟨gk, K5, K6, hq, hsz, hg'.out, HB6.out⟩
end Go.Proofs.YtippcalhcnjghaaDoor
/- A region that draws its order, one operation of which may come behind a store (two results, stored into two variables). -/
namespace Go.Proofs.YtippcalhcnjghaaDoor
open Go.RowKit

def storesWaitBut (md : Region.Mode) (ops : Array Oper) (n late : Nat) : Bool := (List.range ops.size).all fun i => decide (i < n) || (List.range n).all fun j => j == late || reach md ops 6 i j
theorem wpAny_late {P : Program} {ops : Array Oper} {Q : Exit → Act → World → Prop} {a0 : Act} {w0 : World} (n s : Nat) (hsize : ops.size = n + s) (ds : List Tmp) (f : Nat → SFact) (al : List Nat)
    (hd : edgesDown .any ops = true) (late : Nat) (hln : late < n) (hsw : storesWaitBut .any ops n late = true) (hdn : ds.Nodup) (hlen : ds.length = n) (hds : dstsAre ops n ds = true)
    (hal : ∀ i ∈ al, ∀ v w, (f i).P v w → ∃ g, v = .pointer (some ⟨g, 0, none⟩) ∧ g < w.heap.size)
    (hstep : ∀ i o, i < n → ops[i]? = some o → ∀ vs w, vs.length = n → Below w0.heap.size w0 w → (∀ e ∈ o.after, Region.binds .any e = true → (f e.on).P (vs.getD e.on undef) w) →
      ∀ K : Act → World → Prop, Shut (∀ v w', (f i).P v w' → Below w.heap.size w w' → (i ∈ al → v = .pointer (some ⟨w.heap.size, 0, none⟩)) → K ((putAll a0 ds vs).put o.dst v) w') →
        if Region.wanted o (yielded ops (putAll a0 ds vs).tmps) = true then Oper.wp P o (putAll a0 ds vs) w K Q else K ((putAll a0 ds vs).put o.dst undef) w)
    (hend : ∀ vs w, vs.length = n → Below w0.heap.size w0 w → (∀ i, i < n → (f i).P (vs.getD i undef) w) → (∀ i ∈ al, ∀ j ∈ al, i ≠ j → vs.getD i undef ≠ vs.getD j undef) →
      wpAny P .any ops Q s ((List.replicate n true ++ List.replicate s false).toArray) (putAll a0 ds vs) w)
    (hlate : ∀ vs w, vs.length = n → Below w0.heap.size w0 w → (∀ i, i < n → i ≠ late → (f i).P (vs.getD i undef) w) → (∀ i ∈ al, ∀ j ∈ al, i ≠ j → i ≠ late → j ≠ late → vs.getD i undef ≠ vs.getD j undef) →
      wpAny P .any ops Q (s + 1) (((List.replicate n true).set late false ++ List.replicate s false).toArray) (putAll a0 ds vs) w) :
    ∀ (c : Nat) (L : Array Bool) (vs : List Value) (w : World), (L.toList.take n).count false = c → L.size = n + s → (∀ j, n ≤ j → j < n + s → L.getD j true = false) → Closed .any ops L → vs.length = n → Below w0.heap.size w0 w →
      (∀ i, i < n → L.getD i false = true → (f i).P (vs.getD i undef) w) → (∀ i ∈ al, ∀ j ∈ al, i < n → j < n → i ≠ j → L.getD i false = true → L.getD j false = true → vs.getD i undef ≠ vs.getD j undef) →
      (∀ i ∈ al, i < n) → wpAny P .any ops Q (c + s) L (putAll a0 ds vs) w := by
  intro c
  induction c with
  | zero =>
    intro L vs w hc hs hst hcl hvl hb hf hdist haln
    have hall : ∀ i, i < n → L.getD i false = true := fun i hi => by
      have hil : i < L.size := by omega
      cases hb : L[i] with
      | true => simp [Array.getD, hil, hb]
      | false =>
        exfalso
        have hmem : false ∈ L.toList.take n := by
          rw [List.mem_take_iff_getElem]
          exact ⟨i, by simp; omega, by simpa using hb⟩
        have := List.count_pos_iff.2 hmem
        omega
    have hL : L = (List.replicate n true ++ List.replicate s false).toArray := by
      apply Array.ext
      · simp [hs]
      · intro i hi hi2
        by_cases h : i < n
        · have := hall i h
          simp only [Array.getD, hi] at this
          simp [h]
          simpa using this
        · have := hst i (by omega) (by omega)
          simp only [Array.getD, hi] at this
          simp [List.getElem_append, h]
          simpa using this
    rw [Nat.zero_add, hL]
    exact hend vs w hvl hb (fun i hi => hf i hi (hall i hi)) (fun i hi j hj hne => hdist i hi j hj (haln i hi) (haln j hj) hne (hall i (haln i hi)) (hall j (haln j hj)))
  | succ c ih =>
    intro L vs w hc hs hst hcl hvl hb hf hdist haln
    have hnot : ¬ ∀ i, i < n → L.getD i false = true := fun hall => by
      have : (L.toList.take n).count false = 0 := by
        rw [List.count_eq_zero]
        intro hmem
        rw [List.mem_take_iff_getElem] at hmem
        obtain ⟨i, hi, hif⟩ := hmem
        have hi' : i < L.size := by simp at hi; omega
        have := hall i (by simp at hi; omega)
        have h2 : L.getD i false = L[i] := by simp [Array.getD, hi']
        rw [h2] at this
        rw [Array.getElem_toList] at hif
        rw [hif] at this
        cases this
      omega
    by_cases hmiss : ∀ i, i < n → i ≠ late → L.getD i false = true
    · have hlf : L.getD late false = false := by
        cases hb : L.getD late false with
        | false => rfl
        | true => exact absurd (fun i hi => by by_cases h : i = late; · rw [h]; exact hb
                                               · exact hmiss i hi h) hnot
      have hL : L = (((List.replicate n true).set late false ++ List.replicate s false)).toArray := by
        apply Array.ext
        · simp [hs]
        · intro i hi hi2
          by_cases h : i < n
          · by_cases h2 : i = late
            · subst h2
              simp only [Array.getD, hi] at hlf
              simp [h]
              simpa using hlf
            · have := hmiss i h h2
              simp only [Array.getD, hi] at this
              simp [h, List.getElem_set_ne (Ne.symm h2)]
              simpa using this
          · have := hst i (by omega) (by omega)
            simp only [Array.getD, hi] at this
            simp [List.getElem_append, h]
            simpa using this
      have hc0 : c = 0 := by
        have h1 : L.toList.take n = (List.replicate n true).set late false := by
          rw [hL]; simp
        rw [h1, List.count_set (by simpa using hln), List.count_replicate, List.getElem_replicate] at hc
        have e1 : (true == false) = false := rfl
        rw [e1] at hc
        simp only [beq_self_eq_true, if_true, Bool.false_eq_true, if_false] at hc
        omega
      subst hc0
      rw [show 0 + 1 + s = s + 1 by omega, hL]
      exact hlate vs w hvl hb (fun i hi hne => hf i hi (hmiss i hi hne)) (fun i hi j hj hne h1 h2 => hdist i hi j hj (haln i hi) (haln j hj) hne (hmiss i (haln i hi) h1) (hmiss j (haln j hj) h2))
    rw [show c + 1 + s = (c + s) + 1 by omega]
    refine ⟨fun hr => ?_, fun i hi => ?_⟩
    · exfalso
      apply hnot
      intro i hi
      have := all_listed hd (by rw [hs, hsize]) hr i (by omega)
      have hil : i < L.size := by omega
      simpa [Array.getD, hil] using this
    · obtain ⟨hun, o, ho, hall⟩ := mem_ready.1 hi
      have hio : i < ops.size := (Array.getElem?_eq_some_iff.1 ho).1
      have hil : i < L.size := by omega
      have hin : i < n := by
        rcases Nat.lt_or_ge i n with h | h
        · exact h
        · exfalso
          apply hmiss
          intro j hj hjl
          have h1 := List.all_eq_true.1 hsw i (by simpa using hio)
          simp only [Bool.or_eq_true, decide_eq_true_eq] at h1
          rcases h1 with h1 | h1
          · omega
          · have h2 := List.all_eq_true.1 h1 j (by simpa using hj)
            simp only [Bool.or_eq_true, beq_iff_eq] at h2
            rcases h2 with h2 | h2
            · exact absurd h2 hjl
            · exact reach_listed hcl 6 i o j ho hall h2
      have hdst : o.dst = ds[i]? := by
        have h1 := List.all_eq_true.1 hds i (by simpa using hin)
        rw [ho] at h1
        simpa using h1
      have hdi : ds[i]? = some (ds[i]'(by omega)) := by simp
      refine wpOp_step ho (fun K hK => hstep i o hin ho vs w hvl hb (fun e he hbd => ?_) K (fun v w' hv hb' hp => ?_))
      · have hl := hall e he hbd
        have hlt : e.on < n := by
          rcases Nat.lt_or_ge e.on n with h | h
          · exact h
          · exfalso
            rcases Nat.lt_or_ge e.on (n + s) with h2 | h2
            · have := hst e.on h h2
              have hl2 : e.on < L.size := by omega
              simp only [Array.getD, hl2] at this hl
              simp at this hl
              rw [this] at hl; cases hl
            · have : ¬ e.on < L.size := by omega
              simp [Array.getD, this] at hl
        exact hf e.on hlt hl
      · apply hK
        rw [hdst, hdi, putAll_set hdn hdi (by omega)]
        have hset : ∀ j, i ≠ j → (L.setIfInBounds i true).getD j false = L.getD j false := fun j h => getD_set_ne false h
        refine ih (L.setIfInBounds i true) (vs.set i v) w' ?_ (by simpa using hs) ?_ ?_ (by simpa using hvl) (hb.trans (hb'.mono hb.size)) ?_ ?_ haln
        · have hf' : (L.toList.take n)[i]'(by simp; omega) = false := by
            simp only [List.getElem_take]
            simpa [Array.getD, hil] using hun
          have := count_false_set (L.toList.take n) i (by simp; omega) hf'
          rw [Array.toList_setIfInBounds, ← List.take_set] at *
          omega
        · intro j hj hj2
          rw [getD_set_ne true (by omega)]
          exact hst j hj hj2
        · intro j o' hjo hjl e he hbd
          by_cases hji : i = j
          · subst hji
            rw [ho] at hjo
            cases hjo
            exact getD_set_true (hall e he hbd)
          · rw [hset j hji] at hjl
            exact getD_set_true (hcl j o' hjo hjl e he hbd)
        · intro j hj hjl
          by_cases hji : i = j
          · subst hji
            rw [getD_set_list_self (by omega)]
            exact hv
          · rw [hset j hji] at hjl
            rw [getD_set_list hji]
            exact (f j).st _ _ _ (hf j hj hjl) hb'
        · intro j hj k hk hjn hkn hjk hjl hkl
          have old : ∀ x, x ∈ al → x < n → i ≠ x → (L.setIfInBounds i true).getD x false = true → vs.getD x undef ≠ .pointer (some ⟨w.heap.size, 0, none⟩) := fun x hx hxn hix hxl => by
            rw [hset x hix] at hxl
            obtain ⟨g, hg, hgl⟩ := hal x hx _ _ (hf x hxn hxl)
            rw [hg]
            intro e
            injection e with e
            injection e with e
            injection e with e
            omega
          by_cases hji : i = j
          · subst hji
            rw [getD_set_list_self (by omega), getD_set_list hjk, hp hj]
            exact (old k hk hkn hjk hkl).symm
          · by_cases hki : i = k
            · subst hki
              rw [getD_set_list_self (by omega), getD_set_list hji, hp hk]
              exact old j hj hjn hji hjl
            · rw [getD_set_list hji, getD_set_list hki]
              rw [hset j hji] at hjl
              rw [hset k hki] at hkl
              exact hdist j hj k hk hjn hkn hjk hjl hkl

theorem wp_region_late {P : Program} {ops : Array Oper} {Q : Exit → Act → World → Prop} {id : Nat} {a0 : Act} {w0 : World} (n s : Nat) (ds : List Tmp) (vs0 : List Value) (f : Nat → SFact) (al : List Nat) (hm : P.follows .mixedOrders = true)
    (hsize : ops.size = n + s) (hd : edgesDown .any ops = true) (late : Nat) (hln : late < n) (hsw : storesWaitBut .any ops n late = true) (hdn : ds.Nodup) (hlen : ds.length = n) (hds : dstsAre ops n ds = true) (hv0 : vs0.length = n) (haln : ∀ i ∈ al, i < n)
    (he : a0 = putAll a0 ds vs0) (hal : ∀ i ∈ al, ∀ v w, (f i).P v w → ∃ g, v = .pointer (some ⟨g, 0, none⟩) ∧ g < w.heap.size)
    (hstep : ∀ i o, i < n → ops[i]? = some o → ∀ vs w, vs.length = n → Below w0.heap.size w0 w → (∀ e ∈ o.after, Region.binds .any e = true → (f e.on).P (vs.getD e.on undef) w) →
      ∀ K : Act → World → Prop, Shut (∀ v w', (f i).P v w' → Below w.heap.size w w' → (i ∈ al → v = .pointer (some ⟨w.heap.size, 0, none⟩)) → K ((putAll a0 ds vs).put o.dst v) w') →
        if Region.wanted o (yielded ops (putAll a0 ds vs).tmps) = true then Oper.wp P o (putAll a0 ds vs) w K Q else K ((putAll a0 ds vs).put o.dst undef) w)
    (hend : ∀ vs w, vs.length = n → Below w0.heap.size w0 w → (∀ i, i < n → (f i).P (vs.getD i undef) w) → (∀ i ∈ al, ∀ j ∈ al, i ≠ j → vs.getD i undef ≠ vs.getD j undef) →
      wpAny P .any ops Q s ((List.replicate n true ++ List.replicate s false).toArray) (putAll a0 ds vs) w)
    (hlate : ∀ vs w, vs.length = n → Below w0.heap.size w0 w → (∀ i, i < n → i ≠ late → (f i).P (vs.getD i undef) w) → (∀ i ∈ al, ∀ j ∈ al, i ≠ j → i ≠ late → j ≠ late → vs.getD i undef ≠ vs.getD j undef) →
      wpAny P .any ops Q (s + 1) (((List.replicate n true).set late false ++ List.replicate s false).toArray) (putAll a0 ds vs) w) : (Code.region id ops true).wp P Q a0 w0 := by
  refine wp_region_any hm ?_
  have := wpAny_late (a0 := a0) (w0 := w0) n s hsize ds f al hd late hln hsw hdn hlen hds hal hstep hend hlate n (Array.replicate ops.size false) vs0 w0.drew
    (by rw [hsize]; simp [List.take_replicate, Nat.min_eq_left (Nat.le_add_right n s)]) (by simp [hsize]) (by intro j hj hj2; simp [Array.getD, hsize, hj2]) (by intro j o _ h; simp [Array.getD] at h) hv0 ((Below.refl _ _).drew)
    (by intro i _ h; simp [Array.getD] at h) (by intro i _ j _ _ _ _ h; simp [Array.getD] at h) haln
  rw [← he, ← hsize] at this
  exact this
theorem wpAny_two {P : Program} {ops : Array Oper} {Q : Exit → Act → World → Prop} {md : Region.Mode} {i j fuel : Nat} {o o' : Oper} {listed : Array Bool} {a : Act} {w : World} (hr : Region.ready md ops listed = [i, j]) (ho : ops[i]? = some o) (ho' : ops[j]? = some o')
    (h : ∀ K : Act → World → Prop, Shut (∀ a w, wpAny P md ops Q fuel (listed.setIfInBounds i true) a w → K a w) → if Region.wanted o (yielded ops a.tmps) = true then Oper.wp P o a w K Q else K (a.put o.dst undef) w)
    (h' : ∀ K : Act → World → Prop, Shut (∀ a w, wpAny P md ops Q fuel (listed.setIfInBounds j true) a w → K a w) → if Region.wanted o' (yielded ops a.tmps) = true then Oper.wp P o' a w K Q else K (a.put o'.dst undef) w) : wpAny P md ops Q (fuel + 1) listed a w := by
  refine ⟨fun h0 => (by rw [hr] at h0; cases h0), ?_⟩
  rw [hr]
  intro x hx
  simp only [List.mem_cons, List.not_mem_nil, or_false] at hx
  rcases hx with rfl | rfl
  · exact wpOp_step ho (fun K hK => h K hK)
  · exact wpOp_step ho' (fun K hK => h' K hK)
end Go.Proofs.YtippcalhcnjghaaDoor
/- whole.tens: groups of nine digits. -/
namespace Go.Proofs.YtippcalhcnjghaaDoor
open Go.RowKit Big

def T : Nat := 1000000000
theorem T2 : 2 ≤ T := by decide
theorem Own.far {w w' : World} {base B : Nat} {e : TypeId} {k : IntKind} {v : Value} {l : List Nat} (h : Own w B e k v l) (hf : ∀ g, v.ownBlock = some g → g < base) (hb : Below base w w') : Own w' B e k v l := by
  refine ⟨h.1, ?_⟩
  rcases h.2 with hn | ⟨g, cap, cur, rfl, h1, hg, r⟩
  · exact Or.inl hn
  · exact Or.inr ⟨g, cap, cur, rfl, h1, by rw [hb.block g (hf g rfl)]; exact hg, r⟩
theorem Own.apart {w w' : World} {B : Nat} {e : TypeId} {k : IntKind} {v : Value} {l : List Nat} {g : Nat} (h : Own w B e k v l) (hg : g < B) (hw : w.grownBy w' (some g)) : Own w' B e k v l := by
  refine World.ownsRow.kept h hw ?_
  right
  intro e
  have := Own.row h g e
  omega
theorem cutTo_block (v : Value) (m : Nat) : (cutTo v m).ownBlock = v.ownBlock := by
  cases v <;> try rfl
  rename_i p n c
  cases p <;> rfl
theorem grown_below {w w' : World} {g : Nat} {B : Nat} (h : w.grownBy w' (some g)) (hg : B ≤ g) (hB : B ≤ w.heap.size) : Below B w w' := (Below.refl B w).grown h hB (fun k hk => by cases hk; exact hg)
theorem below_grown {w w' w'' : World} {g B : Nat} (h : w.grownBy w' (some g)) (hb : Below B w' w'') (hB : w.heap.size ≤ B) : w.grownBy w'' (some g) :=
  ⟨hb.os.trans h.os, hb.tape.trans h.tape, hb.output.trans h.output, Nat.le_trans h.size hb.size, fun i hi hne => (hb.block i (by omega)).trans (h.block i hi hne)⟩

theorem Own.len {w : World} {B : Nat} {e : TypeId} {k : IntKind} {v : Value} {l : List Nat} (h : Own w B e k v l) : lenOf v = l.length := by
  obtain ⟨p, c, rfl, -⟩ := h.at
  rfl
def RTens (n : Nat) (v : Value) (w : World) (e : Ending) (w' : World) : Prop := ∃ v', e = .returned v' ∧ Own w' w.heap.size 67 .u32 v' (dig T n) ∧ w.grownBy w' v.ownBlock

set_option maxRecDepth 100000 in
set_option maxHeartbeats 1600000 in
theorem tens_any (B : Nat) (v : Value) (n : Nat) (w : World) (h : Own w B 67 .u32 v (dig H n)) (hn : sz T n ≤ 8796093022208) :
    Calls Tryd.prog 60 #[v] w (RTens n v w) := by
  by_cases h0 : n = 0
  · subst h0
    obtain ⟨p, c, rfl, b1, b2, b3, -⟩ := h.at
    have hl : (dig H 0).length = 0 := rfl
    rw [hl] at *
    clear hl h
    go_enter Tryd.func60, Tryd.ntmps60
    go_wp2_with fail
    refine wp_loop_rounds 1 ?_
    rw [rounds_succ]
    go_wp2
    go_ret
    exact ⟨_, rfl, Own.nil _ _ _ _, World.grownBy.refl _ _⟩
  · have hpos : 0 < (dig H n).length := Nat.pos_of_ne_zero fun e => h0 ((sz_eq_zero H2).1 e)
    obtain ⟨g, cap, hv, hBg, hg, hc1, hc2⟩ := h.shape hpos
    have hvb : v.ownBlock = some g := by rw [hv]; rfl
    clear hpos
    have hunf : ∀ w' : World, w.grownBy w' (some g) → w.grownBy w' v.ownBlock := fun w' hh => by rw [hvb]; exact hh
    have Hunf := hid hunf
    have Hvb := hid hvb
    obtain ⟨post, hpost⟩ : ∃ post, post = RTens n v w := ⟨_, rfl⟩
    rw [← hpost]
    have Hpost := hid hpost
    clear hunf hvb hpost
    have ho := hid h
    unfold maxLen at hc2
    subst hv
    go_enter Tryd.func60, Tryd.ntmps60
    go_wp2_with fail
    go_loopw [0, 3] (fun hv gv wr => ∃ (m len cp : Nat) (G : List Nat), hv = .slice (some ⟨g, 0, none⟩) len cp ∧ Hid (len = sz H m) ∧ len ≤ cp ∧ cp ≤ 2 ^ 63 - 1 ∧ Hid (Own wr B 67 .u32 hv (dig H m)) ∧ Own wr w.heap.size 67 .u32 gv G ∧
        Hid (dig T n = G ++ dig T m) ∧ w.grownBy wr (some g)) (fun _ gv _ => sz T n - lenOf gv)
    case atStart => exact ⟨n, _, cap, [], rfl, rfl, hc1, hc2, h, Own.nil _ _ _ _, rfl, World.grownBy.refl _ _⟩
    case round =>
      obtain ⟨m, len, cp, G, rfl, hlen, hcl, hcp, hown, hG, hcat, hgr⟩ := hrel
      by_cases hm : 0 < len
      · have hm0 : m ≠ 0 := fun e => by have := hlen.out; rw [e, sz_zero] at this; omega
        have Hm0 := hid hm0
        have hds := divideShort_any B _ (dig H m) T wr hown.out (small_dig H2 _) (by decide) (by decide)
        rw [val_dig H2] at hds
        have Hds := hid hds
        have hGl : Hid (G.length + sz T (m / T) + 1 = sz T n) := by
          have := congrArg List.length hcat.out
          rw [List.length_append] at this
          have e := sz_pos T2 (n := m) (by omega)
          unfold Hid sz at *
          omega
        clear hds hm0
        have hgw : g < wr.heap.size := Nat.lt_of_lt_of_le hg hgr.size
        go_wp2_with fail
        refine Hds.out.mono ?_
        rintro e w1 ⟨rfl, ho1, hg1⟩
        have hG1 := hG.apart (w' := w1) hg (by simpa [Value.ownBlock] using hg1)
        have hg1' : wr.grownBy w1 (some g) := by simpa [Value.ownBlock] using hg1
        have ho1' := hid ho1
        have hz1 := hg1'.size
        clear ho1 hg1 hG
        have hsz1 : sz H (m / T) ≤ cp := by
          have := sz_mono H2 (Nat.div_le_self m T)
          have := hlen.out
          omega
        have hmod : m % T < 4294967296 := Nat.lt_trans (Nat.mod_lt m (by decide)) (by decide)
        go_wp2_with (at_builtin; refine wpList_append_at rfl _ _ 65 rfl elemHalves w.heap.size _ G rfl (hG1.alloc _) _ [m % T] rfl (At.oneI _ _ _ _ _ (by first | rfl | omega)) (by have := hGl.out; simp [maxLen]; omega) (by have := hGl.out; simp; omega) (by have := hgr.size; simp; omega) ?_; intro v2 w2 ho2 hb2 hs2)
        have l2 := hid ho2.len
        have l1 := hid hG1.len
        have hfin : w.grownBy w2 (some g) := below_grown (below_grown (grown_trans hgr hg1') ((below1 _ _).mono (B' := w.heap.size) (by have := hgr.size; omega)) (Nat.le_refl _)) hb2 (Nat.le_refl _)
        have hown2 : Own w2 B 67 .u32 (cutTo (.slice (some ⟨g, 0, none⟩) len cp) (sz H (m / T))) (dig H (m / T)) :=
          ((ho1'.out.far (base := w.heap.size) (fun g' e => by simp [cutTo, Value.ownBlock] at e; omega) ((below1 _ _).mono (by have := hgr.size; omega)))).far (fun g' e => by simp [cutTo, Value.ownBlock] at e; omega) hb2
        go_roundw
        case rel => exact ⟨m / T, sz H (m / T), cp, G ++ [m % T], rfl, rfl, hsz1, hcp, hown2, ho2, by
          have := hcat.out
          unfold Hid
          rw [this, dig_pos T2 (Nat.pos_of_ne_zero Hm0.out)]; simp, hfin⟩
        case measure =>
          rw [l2.out, l1.out, List.length_append]
          have := hGl.out
          simp
          omega
      · have hm0 : m = 0 := by
          have := hlen.out
          exact (sz_eq_zero H2).1 (by omega)
        have hc : Hid (dig T n = G) := by
          have := hcat.out
          rw [hm0, dig_zero, List.append_nil] at this
          exact this
        obtain rfl : len = 0 := by omega
        clear hlen hown hm0 hcat
        go_wp2
        rw [Hpost.out]
        exact ⟨_, rfl, by rw [hc.out]; exact hG, Hunf.out _ hgr⟩
end Go.Proofs.YtippcalhcnjghaaDoor
/- strings.Builder: copyCheck, WriteByte, WriteString, over a builder that a call has laid itself. -/
namespace Go.Proofs.YtippcalhcnjghaaDoor
open Go.RowKit Big Go.Lib

theorem sizeBuilder : (Tryd.prog.info? 74).map (·.size) = some 2 := by kernel_rfl
theorem liesBuilder : liesAt Tryd.prog Tryd.prog.depth 74 (2 / Tryd.prog.cellsOf 74) 0 74 1 = true := by kernel_rfl
theorem infoByte : (Tryd.prog.info? 5).map (fun i => (i.zero, i.size, i.bytes)) = some (some (.int .u8 0), 1, 1) := by kernel_rfl

set_option maxRecDepth 100000 in
set_option maxHeartbeats 1000000 in
theorem copyCheck_any (B b : Nat) (bs : List Value) (w : World) (h : IsBuilder 74 5 B b bs w) :
    Calls Tryd.prog 82 #[.pointer (some ⟨b, 0, none⟩)] w fun e w' => e = .returned (.tuple #[]) ∧ BuilderAt 74 5 B b (.pointer (some ⟨b, 0, none⟩)) bs w' ∧ Below B w w' := by
  obtain ⟨j, hj, hjs⟩ := Option.map_eq_some_iff.1 sizeBuilder
  rcases h with h | h
  · have c0 := h.cell0
    have hsh := h.shape
    have f0 := h.frozen0
    have H := hid h
    clear h
    go_enter Tryd.func82, Tryd.ntmps82
    go_wp2
    rw [run_to_unsafe w ⟨b, 0, none⟩ Tryd.underlying71 Tryd.underlying107 hj (by rw [hjs]; decide) hsh (Nat.zero_lt_succ 1)]
    simp only [Result.andThen]
    rw [Oper.upon_value]
    go_wp2
    rw [run_callFunc_extern Tryd.func91 (by kernel_rfl) (by kernel_rfl) (by kernel_rfl) (e := Extern.AbiNoEscape.same) (by kernel_rfl), run_noEscape]
    simp only [Result.andThen]
    rw [Oper.upon_value]
    go_wp2
    rw [run_from_unsafe w ⟨b, 0, none⟩ Tryd.underlying107 Tryd.underlying71 hj hsh liesBuilder]
    simp only [Result.andThen]
    rw [Oper.upon_value]
    go_wp2
    go_end0
    exact ⟨rfl, H.out.used _, (Below.refl B w).setCell (p := ⟨b, 0, none⟩) H.out.1 _⟩
  · have c0 := h.cell0
    have H := hid h
    clear h
    go_enter Tryd.func82, Tryd.ntmps82
    go_wp2
    rw [run_neq_ptr_same w _ Tryd.underlying71 hj]
    go_wp2
    go_end0
    exact ⟨rfl, H.out, Below.refl B _⟩

def RBuilt (B b : Nat) (v : Value) (bs : List Value) (w : World) (e : Ending) (w' : World) : Prop := e = .returned v ∧ IsBuilder 74 5 B b bs w' ∧ Below B w w'

set_option maxRecDepth 100000 in
set_option maxHeartbeats 1000000 in
theorem WriteByte_any (B b : Nat) (bs : List Value) (c : Int) (w : World) (h : IsBuilder 74 5 B b bs w) (hlen : bs.length + 1 ≤ 140737488355328) (hBw : B ≤ w.heap.size) :
    Calls Tryd.prog 62 #[.pointer (some ⟨b, 0, none⟩), .int .u8 c] w (RBuilt B b .nilIface (bs ++ [.int .u8 c]) w) := by
  obtain ⟨i0, hi, hz0, hz1, hz2⟩ := info_parts infoByte
  have H := hid h
  clear h
  go_enter Tryd.func62, Tryd.ntmps62
  go_wp2_with fail
  refine (copyCheck_any B b bs _ H.out).mono ?_
  rintro e w1 ⟨rfl, h1, hb1⟩
  have hlt := h1.lt
  obtain ⟨hB, v, hbk, hown, hne⟩ := h1
  have c0 : w1.cell? ⟨b, 0, none⟩ = some (.pointer (some ⟨b, 0, none⟩)) := by rw [cell_of_row w1 b 0 _ _ (0, 0) hbk]; rfl
  have c1 : w1.cell? ⟨b, 1, none⟩ = some v := by rw [cell_of_row w1 b 1 _ _ (0, 0) hbk]; rfl
  have z1 : B ≤ w1.heap.size := Nat.le_trans hBw hb1.size
  go_wp2_with (at_builtin; refine wpList_append_own _ rfl _ _ 72 rfl B 5 i0 (.int .u8 0) 1 1 Tryd.underlying72 hi hz0 hz1 hz2 rfl (by decide) _ _ _ rfl (hown.alloc _) ⟨w1.heap.size, 0, none⟩ 1 1 [.int .u8 c] rfl rfl ?c1 ?c2 ?c3 ?c4 ?c5 ?_)
  case c1 =>
    intro j u hj
    match j, hj with
    | 0, hj => simp at hj; subst hj; simp [Addr.add]
  case c2 => intro u hu; simp at hu; subst hu; rfl
  case c3 => unfold maxLen; omega
  case c4 => omega
  case c5 => simp; omega
  intro v' w2 hown' hgrow _
  have hb2 : w2.heap[b]? = some (.cells #[.pointer (some ⟨b, 0, none⟩), v] 74 (0, 0)) := by
    rw [hgrow.block b (by simp; omega) (fun e => hne e.symm), heap_alloc_old w1 _ hlt]
    exact hbk
  have d0 : w2.cell? ⟨b, 0, none⟩ = some (.pointer (some ⟨b, 0, none⟩)) := by rw [cell_of_row w2 b 0 _ _ (0, 0) hb2]; rfl
  have d1 : w2.cell? ⟨b, 1, none⟩ = some v := by rw [cell_of_row w2 b 1 _ _ (0, 0) hb2]; rfl
  have f1 : w2.frozen? ⟨b, 1, none⟩ = false := frozen_of_row w2 b 1 _ _ hb2
  obtain ⟨g, cap, rfl⟩ : ∃ g cap, v' = .slice (some ⟨g, 0, none⟩) (bs.length + 1) cap := by
    rcases hown'.2 with ⟨_, h0⟩ | ⟨g, cap, cur, hv, _⟩
    · omega
    · exact ⟨g, cap, hv⟩
  go_wp2
  go_ret
  refine ⟨rfl, Or.inr ?_, ?_⟩
  · exact BuilderAt.put (T := 74) (e := 5) hB hb2 (bs' := bs ++ [.int .u8 c]) (by simpa using hown') (by decide)
  · exact ((hb1.alloc z1 _).grown hgrow (by simp; omega) (fun k hk => (hown.lt k hk).1)).setCell (p := ⟨b, 1, none⟩) hB _

set_option maxRecDepth 100000 in
set_option maxHeartbeats 1000000 in
theorem WriteString_any (B b : Nat) (bs : List Value) (s : ByteArray) (w : World) (h : IsBuilder 74 5 B b bs w) (hlen : bs.length + s.size ≤ 140737488355328) (hBw : B ≤ w.heap.size) :
    Calls Tryd.prog 63 #[.pointer (some ⟨b, 0, none⟩), .string s] w (RBuilt B b (.tuple #[.int .i64 s.size, .nilIface]) (bs ++ strCells s) w) := by
  obtain ⟨i0, hi, hz0, hz1, hz2⟩ := info_parts infoByte
  have H := hid h
  clear h
  go_enter Tryd.func63, Tryd.ntmps63
  go_wp2_with fail
  refine (copyCheck_any B b bs _ H.out).mono ?_
  rintro e w1 ⟨rfl, h1, hb1⟩
  have hlt := h1.lt
  obtain ⟨hB, v, hbk, hown, hne⟩ := h1
  have c0 : w1.cell? ⟨b, 0, none⟩ = some (.pointer (some ⟨b, 0, none⟩)) := by rw [cell_of_row w1 b 0 _ _ (0, 0) hbk]; rfl
  have c1 : w1.cell? ⟨b, 1, none⟩ = some v := by rw [cell_of_row w1 b 1 _ _ (0, 0) hbk]; rfl
  have z1 : B ≤ w1.heap.size := Nat.le_trans hBw hb1.size
  go_wp2_with (at_builtin; refine wpList_append_own_string _ rfl _ _ 72 9 rfl B 5 i0 Tryd.underlying72 Tryd.underlying9 hi hz0 hz1 hz2 _ _ _ rfl hown s rfl ?c3 ?c4 ?c5 ?_)
  case c3 => unfold maxLen; omega
  case c4 => omega
  case c5 => omega
  intro v' w2 hown' hgrow _
  have hb2 : w2.heap[b]? = some (.cells #[.pointer (some ⟨b, 0, none⟩), v] 74 (0, 0)) := by
    rw [hgrow.block b hlt (fun e => hne e.symm)]
    exact hbk
  have d0 : w2.cell? ⟨b, 0, none⟩ = some (.pointer (some ⟨b, 0, none⟩)) := by rw [cell_of_row w2 b 0 _ _ (0, 0) hb2]; rfl
  have d1 : w2.cell? ⟨b, 1, none⟩ = some v := by rw [cell_of_row w2 b 1 _ _ (0, 0) hb2]; rfl
  have f1 : w2.frozen? ⟨b, 1, none⟩ = false := frozen_of_row w2 b 1 _ _ hb2
  obtain ⟨ao, n', cap, rfl⟩ : ∃ ao n' cap, v' = .slice ao n' cap := by
    rcases hown'.2 with ⟨hv, h0⟩ | ⟨g, cap, cur, hv, _⟩
    · exact ⟨none, 0, 0, hv⟩
    · exact ⟨_, _, cap, hv⟩
  have hs : (s.size : Int) ≤ 140737488355328 := by omega
  go_wp2
  go_ret2
  refine ⟨rfl, Or.inr ?_, ?_⟩
  · exact BuilderAt.put (T := 74) (e := 5) hB hb2 (bs' := bs ++ strCells s) (by simpa [strCells] using hown') (by decide)
  · exact (hb1.grown hgrow (by omega) (fun k hk => (hown.lt k hk).1)).setCell (p := ⟨b, 1, none⟩) hB _
end Go.Proofs.YtippcalhcnjghaaDoor
/- whole.Print of numbers of one or two digits. -/
namespace Go.Proofs.YtippcalhcnjghaaDoor
open Go.RowKit Big Go.Lib

theorem digits_small (n : Nat) (h : n < 100) (w : World) :
    Calls Tryd.prog 64 #[.int .u32 (n : Nat)] w fun e w' => e = .returned (.string ⟨(Lib.decDigits n).toArray⟩) ∧ w' = w := by
  go_enter Tryd.func64, Tryd.ntmps64
  go_wp2_with (first | (go_at_call 100; refine (Tryd.internal_strconv_small n h _).mono ?_; rintro e w' ⟨rfl, rfl⟩) | go_in)
  go_ret
  exact ⟨rfl, rfl⟩

def RStr (l : List UInt8) (w : World) (e : Ending) (w' : World) : Prop := e = .returned (.string ⟨l.toArray⟩) ∧ Below w.heap.size w w'

theorem decDigits_len (n : Nat) (h : n < 100) : (Lib.decDigits n).length ≤ 2 := by
  have : ∀ m : Fin 100, (Lib.decDigits m.val).length ≤ 2 := by decide +kernel
  exact this ⟨n, h⟩

set_option maxRecDepth 100000 in
set_option maxHeartbeats 1600000 in
theorem Print_small (v : Value) (neg : Bool) (n : Nat) (w : World) (h : RawAt w v (sg neg n)) (h0 : 0 < n) (hn : n < 100) :
    Calls Tryd.prog 35 #[v] w (RStr ((if neg then [45] else []) ++ Lib.decDigits n) w) := by
  obtain ⟨neg', s, l, rfl, ha, hs, hl, hz⟩ := h
  have hv : val W l = n := by have := congrArg Int.natAbs hz; rw [sg_natAbs, sg_natAbs] at this; exact this.symm
  have hneg : neg' = neg := by
    rw [hv] at hz
    have a := sg_neg neg n (by omega)
    have b := sg_neg neg' n (by omega)
    rw [hz, b] at a; exact a
  subst hneg
  have hsl := strip_dig W2 hs
  rw [hv] at hsl
  have hD : dig T n = [n] := dig_one T2 h0 (by unfold T; omega)
  have ht := fun W' hb => trim_val s l W' (ha.below (w' := W') hb)
  have hst := fun W' hb => (ha.below (w' := W') hb).strip
  rw [hsl] at hst
  rw [hsl] at ht
  have Ht : Hid (∀ W', Below w.heap.size w W' → Calls Tryd.prog 38 #[s] W' (fun e w' => e = .returned (cutTo s (dig W n).length) ∧ w' = W')) := ht
  have Hst : Hid (∀ W', Below w.heap.size w W' → At W' .u64 (cutTo s (dig W n).length) (dig W n)) := hst
  have HD := hid hD
  have hnW : sz W n ≤ 1 := sz_word (by unfold W; omega)
  have hlen := decDigits_len n hn
  clear ht hst hsl hD hv hz hs hl ha
  obtain ⟨L, hL⟩ : ∃ L, L = (if neg' then [45] else []) ++ Lib.decDigits n := ⟨_, rfl⟩
  rw [← hL]
  have HL := hid hL
  clear hL
  generalize hu : cutTo s (dig W n).length = u at *
  clear hu
  go_enter Tryd.func35, Tryd.ntmps35
  go_wp2_with fail
  refine (Ht.out _ (below1 _ _)).mono ?_
  rintro e w1 ⟨rfl, rfl⟩
  go_wp2_with fail
  refine (split_any u _ _ (Hst.out _ (below1 _ _)) (small_dig W2 _) (by show sz W n ≤ _; omega)).mono ?_
  rintro e w2 ⟨v2, rfl, ho2, hb2⟩
  rw [val_dig W2] at ho2
  go_wp2_with fail
  refine (tens_any _ v2 n _ ho2 (by unfold sz; rw [HD.out]; simp)).mono ?_
  rintro e w3 ⟨v3, rfl, ho3, hg3⟩
  have hb3 : Below (w.heap.size + 1) w2 w3 := by
    have hz := hb2.size
    rw [size_alloc] at hz
    cases hvb : v2.ownBlock with
    | none => rw [hvb] at hg3; exact (Below.refl _ w2).grown hg3 hz (fun k hk => by cases hk)
    | some g => rw [hvb] at hg3; exact grown_below hg3 (by have := ho2.row g hvb; rwa [size_alloc] at this) hz
  have bw3 : Below (w.heap.size + 1) (w.alloc (.cells #[.bool neg', s] 25)) w3 := (hb2.mono (B' := w.heap.size + 1) (by rw [size_alloc]; omega)).trans hb3
  have bw : Below w.heap.size w w3 := (below1 _ _).trans (bw3.mono (by omega))
  have c0 : w3.cell? ⟨w.heap.size, 0, none⟩ = some (.bool neg') := (bw3.cell (p := ⟨w.heap.size, 0, none⟩) (by show w.heap.size < _; omega)).trans (by simp [go_sem])
  have z3 : w.heap.size + 1 ≤ w3.heap.size := by have := bw3.size; rwa [size_alloc] at this
  rw [HD.out] at ho3
  obtain ⟨g, cap, rfl, hgB, hgl, hcap, hcap2⟩ := ho3.shape (by simp)
  have e0 := (ho3.cell 0 (by simp)).1
  simp only [List.getElem_cons_zero] at e0
  simp only [List.length_cons, List.length_nil, Nat.zero_add] at hcap ⊢
  unfold maxLen at hcap2
  clear ho3 hg3 ho2 hb2 hb3 HD Ht Hst bw3
  have c0' : ∀ o, (w3.alloc o).cell? ⟨w.heap.size, 0, none⟩ = some (.bool neg') := fun o => ((below1 w3 o).cell (p := ⟨w.heap.size, 0, none⟩) (by show w.heap.size < _; omega)).trans c0
  have e0' : ∀ o, (w3.alloc o).cell? ⟨g, 0, none⟩ = some (.int .u32 (n : Nat)) := fun o => ((below1 w3 o).cell (p := ⟨g, 0, none⟩) hgl).trans e0
  have hbl : IsBuilder 74 5 w3.heap.size w3.heap.size [] (w3.alloc (.cells #[.pointer none, .slice none 0 0] 74)) :=
    Or.inl ⟨Nat.le_refl _, .slice none 0 0, heap_alloc_new w3 _, World.ownsRow_nil _ _ _ _, by simp [Value.ownBlock]⟩
  have Hbl := hid hbl
  have hsz : (⟨(Lib.decDigits n).toArray⟩ : ByteArray).size ≤ 2 := hlen
  clear c0 e0 hbl hlen
  cases neg'
  · go_wp2_with fail
    refine (digits_small n hn _).mono ?_
    rintro e w4 ⟨rfl, rfl⟩
    go_wp2_with fail
    refine (WriteString_any _ _ _ _ _ Hbl.out (by simp; omega) (by simp)).mono ?_
    rintro e w5 ⟨rfl, hb5, hbel5⟩
    go_wp2_with fail
    refine wp_loop_rounds 1 ?_
    rw [rounds_succ]
    go_wp2_with fail
    refine (Tryd.Builder_String_any w3.heap.size w3.heap.size (Lib.decDigits n) w5 hb5 (by have := hbel5.size; simp at this; omega)).mono ?_
    rintro e w6 ⟨rfl, hbel6⟩
    go_wp2_with fail
    go_ret
    exact ⟨by rw [HL.out]; rfl, bw.trans ((((below1 w3 _).trans hbel5).trans hbel6).mono (by omega))⟩
  · go_wp2_with fail
    refine (WriteByte_any _ _ _ _ _ Hbl.out (by simp) (by simp)).mono ?_
    rintro e w4 ⟨rfl, hb4, hbel4⟩
    have e0'' : w4.cell? ⟨g, 0, none⟩ = some (.int .u32 (n : Nat)) := (hbel4.cell (p := ⟨g, 0, none⟩) hgl).trans (e0' _)
    clear e0' c0'
    go_wp2_with fail
    refine (digits_small n hn _).mono ?_
    rintro e w4' ⟨rfl, rfl⟩
    go_wp2_with fail
    refine (WriteString_any _ _ _ _ _ hb4 (by simp; omega) (by have := hbel4.size; simp at this; omega)).mono ?_
    rintro e w5 ⟨rfl, hb5, hbel5⟩
    go_wp2_with fail
    refine wp_loop_rounds 1 ?_
    rw [rounds_succ]
    go_wp2_with fail
    refine (Tryd.Builder_String_any w3.heap.size w3.heap.size (45 :: Lib.decDigits n) w5 hb5 (by have := hbel5.size; have := hbel4.size; simp at this; omega)).mono ?_
    rintro e w6 ⟨rfl, hbel6⟩
    go_wp2_with fail
    go_ret
    exact ⟨by rw [HL.out]; rfl, bw.trans (((((below1 w3 _).trans hbel4).trans hbel5).trans hbel6).mono (by omega))⟩
end Go.Proofs.YtippcalhcnjghaaDoor
/- whole.Parse of the text -0. -/
namespace Go.Proofs.YtippcalhcnjghaaDoor
open Go.RowKit Big Go.Lib

set_option maxHeartbeats 800000 in
theorem isSize_zero (w : World) : Calls Tryd.prog 57 #[.string ⟨#[48]⟩] w fun e w' => e = .returned (.bool true) ∧ w' = w := by
  go_enter Tryd.func57, Tryd.ntmps57
  go_wp2_with fail
  refine wp_loop_rounds 2 ?_
  rw [rounds_succ]
  go_wp2
  rw [rounds_succ]
  go_wp2
  go_ret
  exact ⟨rfl, rfl⟩

def RParse (z : Int) (c : Int) (w : World) (e : Ending) (w' : World) : Prop := ∃ v, e = .returned (.tuple #[v, .int .i64 c]) ∧ IntAt w' v z ∧ Below w.heap.size w w'

set_option maxHeartbeats 800000 in
theorem Parse_bad (w : World) : Calls Tryd.prog 33 #[.string ⟨#[45, 48]⟩] w (RParse 0 6 w) := by
  have hc := fun W' => Tryd.strings_CutPrefix ⟨#[45, 48]⟩ ⟨#[45]⟩ W'
  have e1 : (Lib.trimPrefix [45, 48] [45] : List UInt8) = [48] := by decide
  have e2 : Lib.hasPrefix ([45, 48] : List UInt8) [45] = true := by decide
  have hc' : ∀ W', Calls Tryd.prog 56 #[.string ⟨#[45, 48]⟩, .string ⟨#[45]⟩] W' fun e w' => e = .returned (.tuple #[.string ⟨#[48]⟩, .bool true]) ∧ w' = W' := fun W' => by
    have := hc W'
    rw [show (⟨#[45, 48]⟩ : ByteArray).data.toList = [45, 48] from rfl, show (⟨#[45]⟩ : ByteArray).data.toList = [45] from rfl, e1, e2] at this
    exact this
  have Hc := hid hc'
  clear hc hc' e1 e2
  go_enter Tryd.func33, Tryd.ntmps33
  go_wp2_with fail
  refine (Hc.out _).mono ?_
  rintro e w1 ⟨rfl, rfl⟩
  go_wp2_with fail
  refine (isSize_zero _).mono ?_
  rintro e w2 ⟨rfl, rfl⟩
  go_wp2_with fail
  go_goals
  exact bodyPost_ret (v := .tuple #[.agg #[.bool false, .slice none 0 0], .int .i64 6]) (by simp [results, Tryd.results33, go_sem]) rfl ⟨_, rfl, IntAt.zero _, below1 _ _⟩
end Go.Proofs.YtippcalhcnjghaaDoor
/- whole.isSize of any text. -/
namespace Go.Proofs.YtippcalhcnjghaaDoor
open Go.RowKit Big
open Go.Lib (toList_data)

def digB (c : UInt8) : Bool := decide (48 ≤ c.toNat) && decide (c.toNat ≤ 57)
/-- "0", or digits that do not begin with 0 -/
def szB (s : ByteArray) : Bool := decide (0 < s.size) && !(decide (1 < s.size) && decide ((s.data.toList.headD 0).toNat = 48)) && s.data.toList.all digB
theorem digB_iff (c : UInt8) : digB c = true ↔ 48 ≤ c.toNat ∧ c.toNat ≤ 57 := by unfold digB; simp
theorem all_digits {s : ByteArray} : s.data.toList.all digB = true ↔ ∀ k (h : k < s.size), 48 ≤ (s[k]'h).toNat ∧ (s[k]'h).toNat ≤ 57 := by
  rw [List.all_eq_true]
  constructor
  · intro h k hk
    exact (digB_iff _).1 (h (s[k]'hk) (by
      have : s[k]'hk = s.data.toList[k]'(by simpa using hk) := rfl
      rw [this]; exact List.getElem_mem _))
  · intro h c hc
    obtain ⟨k, hk, rfl⟩ := List.getElem_of_mem hc
    exact (digB_iff _).2 (h k (by simpa using hk))

set_option maxRecDepth 100000 in
set_option maxHeartbeats 1600000 in
theorem isSize_any (s : ByteArray) (w : World) (hs : s.size ≤ 9223372036854775807) : Calls Tryd.prog 57 #[.string s] w fun e w' => e = .returned (.bool (szB s)) ∧ w = w' := by
  obtain ⟨r, hr⟩ : ∃ r, r = szB s := ⟨_, rfl⟩
  rw [← hr]
  have Hr := hid hr
  clear hr
  by_cases h0 : s.size = 0
  · have he : s.data.toList = [] := List.eq_nil_of_length_eq_zero (by simpa using h0)
    have hf : Hid (r = false) := by unfold Hid; rw [Hr.out]; unfold szB; simp [h0]
    have he2 : s.toList.isEmpty = true := by rw [toList_data, he]; rfl
    clear Hr he
    go_enter Tryd.func57, Tryd.ntmps57
    go_wp2_with fail
    all_goals
      go_ret
      exact ⟨by rw [hf.out]; rfl, rfl⟩
  · have hlen : 0 < s.size := Nat.pos_of_ne_zero h0
    have hll : s.data.toList.length = s.size := Array.length_toList
    have he2 : s.toList.isEmpty = false := by
      rw [toList_data]
      cases hl : s.data.toList with
      | nil => rw [hl] at hll; simp at hll; omega
      | cons a l => rfl
    have hhd : s.data.toList.headD 0 = s[0]'hlen := by
      rw [List.headD_eq_head?_getD, List.head?_eq_getElem?, List.getElem?_eq_getElem (by omega)]
      rfl
    by_cases hz : 1 < s.size ∧ (s[0]'hlen).toNat = 48
    · obtain ⟨h1, h48⟩ := hz
      have hf : Hid (r = false) := by unfold Hid; rw [Hr.out]; unfold szB; rw [hhd]; simp [h1, h48]
      have hb : (((s[0]'hlen).toNat : Int) == 48) = true := beq_iff_eq.2 (by omega)
      clear Hr hhd h48
      go_enter Tryd.func57, Tryd.ntmps57
      go_wp2_with fail
      go_ret
      exact ⟨by rw [hf.out]; rfl, rfl⟩
    · have hr2 : Hid (r = s.data.toList.all digB) := by
        unfold Hid; rw [Hr.out]; unfold szB; rw [hhd]
        by_cases h1 : 1 < s.size
        · have : ¬ (s[0]'hlen).toNat = 48 := fun e => hz ⟨h1, e⟩
          simp [hlen, h1, this]
        · simp [hlen, h1]
      clear Hr hhd hll
      have hz2 : ¬ 1 < s.size ∨ (1 < s.size ∧ (((s[0]'hlen).toNat : Int) == 48) = false) := by
        by_cases h1 : 1 < s.size
        · exact Or.inr ⟨h1, beq_eq_false_iff_ne.2 (fun e => hz ⟨h1, by omega⟩)⟩
        · exact Or.inl h1
      clear hz
      rcases hz2 with h1 | ⟨h1, hb⟩
      all_goals
        go_enter Tryd.func57, Tryd.ntmps57
        go_wp2_with fail
        go_loop [18] (fun i => ∃ k : Nat, k ≤ s.size ∧ i = .int .i64 (k : Nat) ∧ Hid (∀ j (h : j < s.size), j < k → 48 ≤ (s[j]'h).toNat ∧ (s[j]'h).toNat ≤ 57)) (fun i => s.size - (intOf i).toNat)
        case atStart => exact ⟨0, Nat.zero_le _, rfl, fun j h hj => absurd hj (Nat.not_lt_zero _)⟩
        case round =>
          obtain ⟨k, hk, rfl, hdig⟩ := hrel
          by_cases hlt : k < s.size
          · by_cases hd1 : (s[k]'hlt).toNat < 48
            · have hf : Hid (r = false) := by
                unfold Hid; rw [hr2.out]
                cases hall : s.data.toList.all digB with
                | false => rfl
                | true => exact absurd (all_digits.1 hall k hlt).1 (by omega)
              clear hr2 hdig
              go_wp2_with fail
              go_ret
              exact ⟨by rw [hf.out]; rfl, rfl⟩
            · by_cases hd2 : 57 < (s[k]'hlt).toNat
              · have hf : Hid (r = false) := by
                  unfold Hid; rw [hr2.out]
                  cases hall : s.data.toList.all digB with
                  | false => rfl
                  | true => exact absurd (all_digits.1 hall k hlt).2 (by omega)
                clear hr2 hdig
                go_wp2_with fail
                go_ret
                exact ⟨by rw [hf.out]; rfl, rfl⟩
              · have hdig' : Hid (∀ j (h : j < s.size), j < k + 1 → 48 ≤ (s[j]'h).toNat ∧ (s[j]'h).toNat ≤ 57) := fun j h hj => by
                  by_cases hjk : j = k
                  · subst hjk; exact ⟨by omega, by omega⟩
                  · exact hdig.out j h (by omega)
                clear hdig
                go_wp2_with fail
                go_round
                case rel => exact ⟨k + 1, by omega, by go_num, hdig'⟩
                case measure => (simp [intOf] <;> omega)
          · have hf : Hid (r = true) := by
              unfold Hid; rw [hr2.out]
              exact all_digits.2 fun j h => hdig.out j h (by omega)
            clear hr2 hdig
            go_wp2_with fail
            go_ret
            exact ⟨by rw [hf.out]; rfl, rfl⟩
end Go.Proofs.YtippcalhcnjghaaDoor
/- whole.Parse of any text. -/
namespace Go.Proofs.YtippcalhcnjghaaDoor
open Go.RowKit Big
open Go.Lib (toList_data)

/-- digits as a number -/
def numL (l : List UInt8) : Nat := l.foldl (fun n c => n * 10 + (c.toNat - 48)) 0
theorem numL_snoc (l : List UInt8) (c : UInt8) : numL (l ++ [c]) = numL l * 10 + (c.toNat - 48) := by simp [numL]
theorem numL_aux : ∀ (l : List UInt8) (n : Nat), (∀ c ∈ l, c.toNat ≤ 57) → l.foldl (fun n c => n * 10 + (c.toNat - 48)) n < (n + 1) * 10 ^ l.length
  | [], n, _ => by simp
  | c :: l, n, h => by
    have h2 := h c (by simp)
    have h1 := numL_aux l (n * 10 + (c.toNat - 48)) (fun x hx => h x (by simp [hx]))
    rw [List.foldl_cons, List.length_cons, Nat.pow_succ]
    have : (n * 10 + (c.toNat - 48) + 1) * 10 ^ l.length ≤ (n + 1) * 10 * 10 ^ l.length := Nat.mul_le_mul_right _ (by omega)
    have e : (n + 1) * 10 * 10 ^ l.length = (n + 1) * (10 ^ l.length * 10) := by rw [Nat.mul_assoc, Nat.mul_comm 10]
    omega
theorem numL_sz (l : List UInt8) (h : ∀ c ∈ l, c.toNat ≤ 57) : sz H (numL l) ≤ l.length := by
  refine sz_le_of_lt H2 ?_
  have := numL_aux l 0 h
  rw [Nat.zero_add, Nat.one_mul] at this
  exact Nat.lt_of_lt_of_le this (Nat.pow_le_pow_left (by decide) _)
def below (s : ByteArray) : Bool := Lib.hasPrefix s.data.toList [45]
def rest (s : ByteArray) : ByteArray := ⟨(Lib.trimPrefix s.data.toList [45]).toArray⟩
/-- does a text tell a number? -/
def goodB (s : ByteArray) : Bool := decide (s.size ≤ 4096) && szB (rest s) && !(below s && decide ((rest s).data.toList = [48]))

set_option maxRecDepth 100000 in
set_option maxHeartbeats 3200000 in
theorem Parse_yes (s : ByteArray) (w : World) (hl : s.size ≤ 4096) (hb : goodB s = true) : Calls Tryd.prog 33 #[.string s] w (RParse (sg (below s) (numL (rest s).data.toList)) 0 w) := by
  unfold goodB at hb
  simp only [Bool.and_eq_true, decide_eq_true_eq] at hb
  obtain ⟨⟨-, hsz⟩, hnz⟩ := hb
  have hrl : (rest s).size ≤ 4096 := by
    have h1 : (Lib.trimPrefix s.data.toList [45]).length ≤ s.data.toList.length := by unfold Lib.trimPrefix; split <;> simp
    have h2 : s.data.toList.length = s.size := Array.length_toList
    show (Lib.trimPrefix s.data.toList [45]).toArray.size ≤ 4096
    rw [List.size_toArray]; omega
  have hc := fun W' => Tryd.strings_CutPrefix s ⟨#[45]⟩ W'
  have his := fun W' => isSize_any (rest s) W' (by omega)
  rw [hsz] at his
  have hdig : ∀ k (h : k < (rest s).size), 48 ≤ ((rest s)[k]'h).toNat ∧ ((rest s)[k]'h).toNat ≤ 57 := by
    unfold szB at hsz
    simp only [Bool.and_eq_true] at hsz
    exact all_digits.1 hsz.2
  have Hc : Hid (∀ W', Calls Tryd.prog 56 #[.string s, .string ⟨#[45]⟩] W' fun e w' => e = .returned (.tuple #[.string (rest s), .bool (below s)]) ∧ w' = W') := hc
  have Hdig := hid hdig; have His := hid his
  generalize rest s = t at *
  generalize below s = neg at *
  clear hc his hdig hsz
  cases neg
  · go_enter Tryd.func33, Tryd.ntmps33
    go_wp2_with fail
    refine (Hc.out _).mono ?_
    rintro e w1 ⟨rfl, rfl⟩
    go_wp2_with fail
    refine (His.out _).mono ?_
    rintro e w2 ⟨rfl, rfl⟩
    go_wp2_with fail
    have hpr : Pair (w.alloc (.cells #[.bool false, .slice none 0 0] 25)) w.heap.size 25 := Pair.new ..
    have hbw := below1 w (.cells #[.bool false, .slice none 0 0] 25)
    have hzw := size_alloc w (.cells #[.bool false, .slice none 0 0] 25)
    generalize w.alloc (.cells #[.bool false, .slice none 0 0] 25) = W1 at *
    go_loopw [6, 30] (fun o i wr => ∃ (k : Nat), k ≤ t.size ∧ i = .int .i64 (k : Nat) ∧ Own wr W1.heap.size 67 .u32 o (dig H (numL (t.data.toList.take k))) ∧ Below W1.heap.size W1 wr) (fun _ i _ => t.size - (intOf i).toNat)
    case atStart => exact ⟨0, Nat.zero_le _, rfl, Own.nil .., Below.refl _ _⟩
    case round =>
      obtain ⟨k, hk, rfl, hown, hbel⟩ := hrel
      by_cases hlt : k < t.size
      · have hd := Hdig.out k hlt
        have hdd : ∀ j ≤ t.size, ∀ c ∈ t.data.toList.take j, c.toNat ≤ 57 := fun j hj c hc => by
          obtain ⟨i, hi, rfl⟩ := List.getElem_of_mem (List.mem_of_mem_take hc)
          exact (Hdig.out i (by simpa using hi)).2
        have hnx : Hid (numL (t.data.toList.take (k + 1)) = numL (t.data.toList.take k) * 10 + ((t[k]'hlt).toNat - 48)) := by
          unfold Hid
          rw [← numL_snoc, List.take_succ_eq_append_getElem (by simpa using hlt)]
          rfl
        have hszk : sz H (numL (t.data.toList.take k)) ≤ 4398046511104 := by
          have h1 := numL_sz _ (hdd k hk)
          rw [List.length_take] at h1
          omega
        obtain ⟨m, hm⟩ : ∃ m, m = (t[k]'hlt).toNat - 48 := ⟨_, rfl⟩
        have hmb : m < 10 := by omega
        rw [← hm] at hnx
        have htp := fun (o : Value) (W' : World) (h : Own W' W1.heap.size 67 .u32 o (dig H (numL (t.data.toList.take k)))) (hB : W1.heap.size ≤ W'.heap.size) =>
          timesPlus_any W1.heap.size o _ 10 m W' h (by decide) (by decide) (by unfold H; omega) hszk hB
        have Htp := hid htp; have Hm := hid hm; have Hd := hid hd
        clear htp hdd hszk hm hd
        go_wp2_with fail
        have em : (((t[k]'hlt).toNat : Int) - 48) % 256 = (m : Nat) := by have := Hm.out; have := Hd.out; omega
        rw [em]
        refine (Htp.out _ _ hown hbel.size).mono ?_
        rintro e w2 ⟨v2, rfl, ho2, hb2⟩
        rw [← hnx.out] at ho2
        go_wp2_with fail
        go_roundw
        case rel => exact ⟨k + 1, by omega, by go_num, ho2, hbel.trans hb2⟩
        case measure => (simp [intOf] <;> omega)
      · have hke : k = t.size := by omega
        have hall : t.data.toList.take k = t.data.toList := List.take_of_length_le (by rw [Array.length_toList, hke]; exact Nat.le_refl _)
        rw [hall] at hown
        have hszt : sz H (numL t.data.toList) ≤ 4398046511104 := by
          have h1 := numL_sz t.data.toList (fun c hc => by
            obtain ⟨i, hi, rfl⟩ := List.getElem_of_mem hc
            exact (Hdig.out i (by simpa using hi)).2)
          rw [Array.length_toList] at h1
          have : t.data.size = t.size := rfl
          omega
        have hpr2 := hpr.below (w' := wr) hbel
        go_wp2_with fail
        refine (join_any _ _ _ hown.at hszt).mono ?_
        rintro e w2 ⟨v2, rfl, ho2, hb2⟩
        go_wp2_with fail
        refine (told_any false _ _ _ ho2.at).mono ?_
        rintro e w3 ⟨v3, rfl, hi3, hb3⟩
        obtain ⟨p3, n3, c3, rfl, hi3⟩ := hi3.shape
        have hpr3 := (hpr2.below hb2).below hb3
        have hbel3 := (hbw.trans (hbel.mono (B' := w.heap.size) (by omega))).trans ((hb2.mono (B' := w.heap.size) (by have := hbel.size; omega)).trans (hb3.mono (B' := w.heap.size) (by have := hbel.size; have := hb2.size; omega)))
        obtain ⟨_, _, q0, q1, q2, q3⟩ := hpr3.cells
        go_wp2
        exact bodyPost_ret (v := .tuple #[.agg #[.bool (decide (sg false (numL t.data.toList) < 0)), .slice p3 n3 c3], .int .i64 0]) (by simp [results, Tryd.results33, go_sem, q0, q1]) rfl
          ⟨_, rfl, hi3.stored hpr3 _ _ _ _, Below.stored hbel3 (Nat.le_refl _) _ _⟩
  · have hz : (t.toList == [48]) = false := by
      rw [toList_data]
      simpa using hnz
    have Hz := hid hz
    go_enter Tryd.func33, Tryd.ntmps33
    go_wp2_with fail
    refine (Hc.out _).mono ?_
    rintro e w1 ⟨rfl, rfl⟩
    go_wp2_with fail
    refine (His.out _).mono ?_
    rintro e w2 ⟨rfl, rfl⟩
    go_wp2_with fail
    have hpr : Pair (w.alloc (.cells #[.bool false, .slice none 0 0] 25)) w.heap.size 25 := Pair.new ..
    have hbw := below1 w (.cells #[.bool false, .slice none 0 0] 25)
    have hzw := size_alloc w (.cells #[.bool false, .slice none 0 0] 25)
    generalize w.alloc (.cells #[.bool false, .slice none 0 0] 25) = W1 at *
    go_loopw [6, 30] (fun o i wr => ∃ (k : Nat), k ≤ t.size ∧ i = .int .i64 (k : Nat) ∧ Own wr W1.heap.size 67 .u32 o (dig H (numL (t.data.toList.take k))) ∧ Below W1.heap.size W1 wr) (fun _ i _ => t.size - (intOf i).toNat)
    case atStart => exact ⟨0, Nat.zero_le _, rfl, Own.nil .., Below.refl _ _⟩
    case round =>
      obtain ⟨k, hk, rfl, hown, hbel⟩ := hrel
      by_cases hlt : k < t.size
      · have hd := Hdig.out k hlt
        have hdd : ∀ j ≤ t.size, ∀ c ∈ t.data.toList.take j, c.toNat ≤ 57 := fun j hj c hc => by
          obtain ⟨i, hi, rfl⟩ := List.getElem_of_mem (List.mem_of_mem_take hc)
          exact (Hdig.out i (by simpa using hi)).2
        have hnx : Hid (numL (t.data.toList.take (k + 1)) = numL (t.data.toList.take k) * 10 + ((t[k]'hlt).toNat - 48)) := by
          unfold Hid
          rw [← numL_snoc, List.take_succ_eq_append_getElem (by simpa using hlt)]
          rfl
        have hszk : sz H (numL (t.data.toList.take k)) ≤ 4398046511104 := by
          have h1 := numL_sz _ (hdd k hk)
          rw [List.length_take] at h1
          omega
        obtain ⟨m, hm⟩ : ∃ m, m = (t[k]'hlt).toNat - 48 := ⟨_, rfl⟩
        have hmb : m < 10 := by omega
        rw [← hm] at hnx
        have htp := fun (o : Value) (W' : World) (h : Own W' W1.heap.size 67 .u32 o (dig H (numL (t.data.toList.take k)))) (hB : W1.heap.size ≤ W'.heap.size) =>
          timesPlus_any W1.heap.size o _ 10 m W' h (by decide) (by decide) (by unfold H; omega) hszk hB
        have Htp := hid htp; have Hm := hid hm; have Hd := hid hd
        clear htp hdd hszk hm hd
        go_wp2_with fail
        have em : (((t[k]'hlt).toNat : Int) - 48) % 256 = (m : Nat) := by have := Hm.out; have := Hd.out; omega
        rw [em]
        refine (Htp.out _ _ hown hbel.size).mono ?_
        rintro e w2 ⟨v2, rfl, ho2, hb2⟩
        rw [← hnx.out] at ho2
        go_wp2_with fail
        go_roundw
        case rel => exact ⟨k + 1, by omega, by go_num, ho2, hbel.trans hb2⟩
        case measure => (simp [intOf] <;> omega)
      · have hke : k = t.size := by omega
        have hall : t.data.toList.take k = t.data.toList := List.take_of_length_le (by rw [Array.length_toList, hke]; exact Nat.le_refl _)
        rw [hall] at hown
        have hszt : sz H (numL t.data.toList) ≤ 4398046511104 := by
          have h1 := numL_sz t.data.toList (fun c hc => by
            obtain ⟨i, hi, rfl⟩ := List.getElem_of_mem hc
            exact (Hdig.out i (by simpa using hi)).2)
          rw [Array.length_toList] at h1
          have : t.data.size = t.size := rfl
          omega
        have hpr2 := hpr.below (w' := wr) hbel
        go_wp2_with fail
        refine (join_any _ _ _ hown.at hszt).mono ?_
        rintro e w2 ⟨v2, rfl, ho2, hb2⟩
        go_wp2_with fail
        refine (told_any true _ _ _ ho2.at).mono ?_
        rintro e w3 ⟨v3, rfl, hi3, hb3⟩
        obtain ⟨p3, n3, c3, rfl, hi3⟩ := hi3.shape
        have hpr3 := (hpr2.below hb2).below hb3
        have hbel3 := (hbw.trans (hbel.mono (B' := w.heap.size) (by omega))).trans ((hb2.mono (B' := w.heap.size) (by have := hbel.size; omega)).trans (hb3.mono (B' := w.heap.size) (by have := hbel.size; have := hb2.size; omega)))
        obtain ⟨_, _, q0, q1, q2, q3⟩ := hpr3.cells
        go_wp2
        exact bodyPost_ret (v := .tuple #[.agg #[.bool (decide (sg true (numL t.data.toList) < 0)), .slice p3 n3 c3], .int .i64 0]) (by simp [results, Tryd.results33, go_sem, q0, q1]) rfl
          ⟨_, rfl, hi3.stored hpr3 _ _ _ _, Below.stored hbel3 (Nat.le_refl _) _ _⟩
set_option maxRecDepth 100000 in
set_option maxHeartbeats 3200000 in
theorem Parse_no (s : ByteArray) (w : World) (hb : goodB s = false) (hs : s.size ≤ 1099511627776) : Calls Tryd.prog 33 #[.string s] w (RParse 0 6 w) := by
  have hc := fun W' => Tryd.strings_CutPrefix s ⟨#[45]⟩ W'
  have hrl : (rest s).size ≤ s.size := by
    have h1 : (Lib.trimPrefix s.data.toList [45]).length ≤ s.data.toList.length := by unfold Lib.trimPrefix; split <;> simp
    have h2 : s.data.toList.length = s.size := Array.length_toList
    show (Lib.trimPrefix s.data.toList [45]).toArray.size ≤ s.size
    rw [List.size_toArray]; omega
  have his := fun (h : (rest s).size ≤ 4096) W' => isSize_any (rest s) W' (by omega)
  have Hc : Hid (∀ W', Calls Tryd.prog 56 #[.string s, .string ⟨#[45]⟩] W' fun e w' => e = .returned (.tuple #[.string (rest s), .bool (below s)]) ∧ w' = W') := hc
  unfold goodB at hb
  by_cases hl : s.size ≤ 4096
  · have his := his (by omega)
    rw [decide_eq_true hl, Bool.true_and] at hb
    generalize rest s = t at *
    generalize below s = neg at *
    cases hsz : szB t with
    | false =>
      rw [hsz] at his
      have His := hid his
      clear hc his hb
      cases neg
      all_goals
        go_enter Tryd.func33, Tryd.ntmps33
        go_wp2_with fail
        refine (Hc.out _).mono ?_
        rintro e w1 ⟨rfl, rfl⟩
        go_wp2_with fail
        refine (His.out _).mono ?_
        rintro e w2 ⟨rfl, rfl⟩
        go_wp2_with fail
        exact bodyPost_ret (v := .tuple #[.agg #[.bool false, .slice none 0 0], .int .i64 6]) (by simp [results, Tryd.results33, go_sem]) rfl ⟨_, rfl, IntAt.zero _, below1 _ _⟩
    | true =>
      rw [hsz] at his hb
      have His := hid his
      cases neg with
      | false => simp at hb
      | true =>
        have hz : (t.toList == [48]) = true := by
          rw [toList_data]
          simpa using hb
        clear hc his hb
        go_enter Tryd.func33, Tryd.ntmps33
        go_wp2_with fail
        refine (Hc.out _).mono ?_
        rintro e w1 ⟨rfl, rfl⟩
        go_wp2_with fail
        refine (His.out _).mono ?_
        rintro e w2 ⟨rfl, rfl⟩
        go_wp2_with fail
        exact bodyPost_ret (v := .tuple #[.agg #[.bool false, .slice none 0 0], .int .i64 6]) (by simp [results, Tryd.results33, go_sem]) rfl ⟨_, rfl, IntAt.zero _, below1 _ _⟩
  · clear hc his hb
    go_enter Tryd.func33, Tryd.ntmps33
    go_wp2_with fail
    exact bodyPost_ret (v := .tuple #[.agg #[.bool false, .slice none 0 0], .int .i64 6]) (by simp [results, Tryd.results33, go_sem]) rfl ⟨_, rfl, IntAt.zero _, below1 _ _⟩
end Go.Proofs.YtippcalhcnjghaaDoor
/- Digits in tens: numerals, groups of nine. Plain mathematics. -/
namespace Go.Proofs.YtippcalhcnjghaaDoor
open Big Go.Lib
theorem digit_toNat {d : Nat} (h : d < 10) : (UInt8.ofNat (48 + d)).toNat = 48 + d := by
  rw [UInt8.toNat_ofNat']; omega
theorem decDigits_big {u : Nat} (h : ¬ u < 10) : decDigits u = decDigits (u / 10) ++ [UInt8.ofNat (48 + u % 10)] := by rw [decDigits, dif_neg h]
theorem numL_decDigits (u : Nat) : numL (decDigits u) = u := by
  induction u using Nat.strongRecOn with
  | _ u ih =>
    by_cases h : u < 10
    · rw [decDigits_one h, show ([UInt8.ofNat (48 + u)] : List UInt8) = [] ++ [UInt8.ofNat (48 + u)] from rfl, numL_snoc, digit_toNat h]
      simp [numL]
    · rw [decDigits_big h, numL_snoc, ih _ (by omega), digit_toNat (by omega)]
      omega
theorem decDigits_digits (u : Nat) : ∀ c ∈ decDigits u, 48 ≤ c.toNat ∧ c.toNat ≤ 57 := by
  induction u using Nat.strongRecOn with
  | _ u ih =>
    intro c hc
    by_cases h : u < 10
    · rw [decDigits_one h] at hc
      simp only [List.mem_singleton] at hc
      subst hc
      rw [digit_toNat h]; omega
    · rw [decDigits_big h, List.mem_append, List.mem_singleton] at hc
      rcases hc with hc | hc
      · exact ih _ (by omega) c hc
      · subst hc
        rw [digit_toNat (by omega)]; omega
theorem decDigits_ne (u : Nat) : decDigits u ≠ [] := by
  intro e
  have := decDigits_length u
  have h2 := nDigits_pos u
  rw [e] at this
  simp at this
  omega
theorem decDigits_head (u : Nat) (h : 0 < u) : ∃ c l, decDigits u = c :: l ∧ c.toNat ≠ 48 := by
  induction u using Nat.strongRecOn with
  | _ u ih =>
    by_cases h1 : u < 10
    · exact ⟨_, [], decDigits_one h1, by rw [digit_toNat h1]; omega⟩
    · obtain ⟨c, l, e, hc⟩ := ih (u / 10) (by omega) (by omega)
      exact ⟨c, l ++ [UInt8.ofNat (48 + u % 10)], by rw [decDigits_big h1, e]; rfl, hc⟩
/-- so many digits, with noughts ahead -/
def padTo : Nat → Nat → List UInt8
  | 0, _ => []
  | k + 1, g => padTo k (g / 10) ++ [UInt8.ofNat (48 + g % 10)]
theorem decDigits_pad : ∀ (k m g : Nat), 0 < m → g < 10 ^ k → decDigits (m * 10 ^ k + g) = decDigits m ++ padTo k g
  | 0, m, g, _, h => by simp at h; subst h; simp [padTo]
  | k + 1, m, g, hm, h => by
    have h1 : m * 10 ^ (k + 1) = m * 10 ^ k * 10 := by rw [Nat.pow_succ, Nat.mul_assoc]
    have hp : 0 < 10 ^ k := Nat.pow_pos (by decide)
    have h2 : 0 < m * 10 ^ k := Nat.mul_pos hm hp
    rw [Nat.pow_succ] at h
    rw [h1, decDigits_big (by omega), show (m * 10 ^ k * 10 + g) / 10 = m * 10 ^ k + g / 10 by omega, show (m * 10 ^ k * 10 + g) % 10 = g % 10 by omega, decDigits_pad k m (g / 10) hm (by omega), List.append_assoc]
    rfl
theorem padTo_zero (k : Nat) : padTo k 0 = List.replicate k 48 := by
  induction k with
  | zero => rfl
  | succ k ih =>
    rw [padTo, Nat.zero_div, ih, List.replicate_succ']
    rfl
theorem padTo_eq : ∀ (k g : Nat), 0 < k → g < 10 ^ k → padTo k g = List.replicate (k - (decDigits g).length) 48 ++ decDigits g
  | 0, _, h, _ => absurd h (by decide)
  | k + 1, g, _, h => by
    by_cases hg : g < 10
    · rw [padTo, Nat.div_eq_of_lt hg, padTo_zero, decDigits_one hg, Nat.mod_eq_of_lt hg]
      simp
    · have hk : 0 < k := by
        rcases Nat.eq_zero_or_pos k with e | e
        · subst e; simp at h; omega
        · exact e
      rw [Nat.pow_succ] at h
      rw [padTo, padTo_eq k (g / 10) hk (by omega), decDigits_big hg, List.length_append, List.append_assoc]
      congr 2
      simp
theorem decDigits_le {u k : Nat} (hk : 0 < k) (h : u < 10 ^ k) : (decDigits u).length ≤ k := by
  induction k generalizing u with
  | zero => omega
  | succ k ih =>
    by_cases hu : u < 10
    · rw [decDigits_one hu]; simp
    · rw [decDigits_big hu, List.length_append]
      have hk : 0 < k := by
        rcases Nat.eq_zero_or_pos k with e | e
        · subst e; simp at h; omega
        · exact e
      have := ih (u := u / 10) hk (by rw [Nat.pow_succ] at h; omega)
      simp; omega
/-- groups of nine digits, the lowest first, as a text -/
def groupText : List Nat → List UInt8
  | [] => []
  | [g] => decDigits g
  | g :: l => groupText l ++ padTo 9 g
theorem groupText_cons {g : Nat} {l : List Nat} (h : l ≠ []) : groupText (g :: l) = groupText l ++ padTo 9 g := by
  cases l with
  | nil => exact absurd rfl h
  | cons => rfl
theorem groupText_dig (n : Nat) (h : 0 < n) : groupText (dig T n) = decDigits n := by
  induction n using Nat.strongRecOn with
  | _ n ih =>
    rw [dig_pos T2 h]
    by_cases hn : n < T
    · rw [Nat.div_eq_of_lt hn, dig_zero, Nat.mod_eq_of_lt hn]
      rfl
    · have h1 : 0 < n / T := Nat.div_pos (by omega) (by decide)
      have h2 : dig T (n / T) ≠ [] := by rw [dig_pos T2 h1]; exact List.cons_ne_nil _ _
      rw [groupText_cons h2, ih (n / T) (Nat.div_lt_self h (by decide)) h1]
      have h3 := decDigits_pad 9 (n / T) (n % T) h1 (Nat.mod_lt n (by decide))
      rw [← h3]
      congr 1
      show n / T * T + n % T = n
      have := Nat.div_add_mod n T
      rw [Nat.mul_comm] at this
      exact this
theorem groupText_drop (l : List Nat) (i : Nat) (h : i + 1 < l.length) : groupText (l.drop i) = groupText (l.drop (i + 1)) ++ padTo 9 (l[i]'(by omega)) := by
  rw [List.drop_eq_getElem_cons (by omega), groupText_cons]
  intro e
  have := congrArg List.length e
  simp at this
  omega
theorem groupText_last (l : List Nat) (h : 0 < l.length) : groupText (l.drop (l.length - 1)) = decDigits (l[l.length - 1]'(by omega)) := by
  rw [List.drop_eq_getElem_cons (by omega), List.drop_eq_nil_of_le (by omega)]
  rfl
/-- a whole number's text -/
def decI (z : Int) : List UInt8 := (if z < 0 then [45] else []) ++ decDigits z.natAbs
theorem groupText_le : ∀ (l : List Nat), (∀ g ∈ l, g < T) → (groupText l).length ≤ 9 * l.length
  | [], _ => by simp [groupText]
  | [g], h => by
    have := decDigits_le (k := 9) (by decide) (h g (by simp))
    simp [groupText]; omega
  | g :: g' :: l, h => by
    have ih := groupText_le (g' :: l) (fun x hx => h x (by simp [hx]))
    have hg := h g (by simp)
    have := decDigits_le (k := 9) (by decide) hg
    rw [groupText_cons (by simp), List.length_append, padTo_eq 9 g (by decide) hg]
    simp at ih ⊢
    omega
theorem bytes_eq2 {a b : ByteArray} (h : a.data.toList = b.data.toList) : a = b := by
  cases a with | mk a => cases b with | mk b => exact congrArg ByteArray.mk (Array.toList_inj.1 h)
end Go.Proofs.YtippcalhcnjghaaDoor
/- strconv.FormatUint at base 10, over a world that holds the table of powers of ten. -/
namespace Go.Proofs.YtippcalhcnjghaaDoor
open Go.RowKit Go.Sort Go.Lib

theorem holds_zero20 (w : World) (t : TypeId) (nd : Nat) (hs : nd ≤ 24) : Sort.Holds (fun (b : UInt8) => Value.int .u8 (b.toNat : Int)) (w.alloc (.cells zeros24 t)) w.heap.size 0 (Array.replicate nd (0 : UInt8)) := fun j hj => by
  have hj' : j < nd := by simpa using hj
  refine ⟨?_, World.frozen?_alloc_new _ _ _ _⟩
  rw [World.cell?_alloc_new, Nat.zero_add, zeros24_at _ (by omega), getElem!_pos _ j hj]
  simp
theorem fin_pos20 (w : World) (o : Obj) (dk : Array UInt8) (k : Nat) : Below w.heap.size w ((putRow (fun (b : UInt8) => Value.int .u8 (b.toNat : Int)) (w.alloc o) w.heap.size 0 dk).drewN k) := by
  have : ∃ os, (putRow (fun (b : UInt8) => Value.int .u8 (b.toNat : Int)) (w.alloc o) w.heap.size 0 dk).drewN k = grow (w.drewN k) os := by
    rw [alloc_eq_grow]
    obtain ⟨os', _, e⟩ := putRow_grow_new (fun (b : UInt8) => Value.int .u8 (b.toNat : Int)) w #[o] w.heap.size 0 dk (Nat.le_refl _)
    exact ⟨os', by rw [e]; rfl⟩
  obtain ⟨os, e⟩ := this
  rw [e]
  exact below_grow _ w (Nat.le_refl _) k os

def Tab (w : World) : Prop := TabIs Tryd.prog w "internal/strconv.uint64pow10" .u64 pow10Tab
theorem Tab.below {w w' : World} (h : Tab w) (hb : Below w.heap.size w w') : Tab w' := tabBelow_of_tabIs h w' hb

set_option maxRecDepth 100000 in
set_option maxHeartbeats 1600000 in
theorem FmtUint_any (u : Nat) (w : World) (hu : u < 18446744073709551616) (htab : Tab w) :
    Calls Tryd.prog 92 #[.int .u64 (u : Nat), .int .i64 10] w fun e w' => e = .returned (.string ⟨(decDigits u).toArray⟩) ∧ Below w.heap.size w w' := by
  by_cases hs : u < 100
  · go_enter Tryd.func92, Tryd.ntmps92
    go_wp2_with (go_at_call 100; refine (Tryd.internal_strconv_small u hs _).mono ?_; rintro e w' ⟨rfl, rfl⟩)
    go_ret
    exact ⟨rfl, Below.refl _ _⟩
  · have hu1 : 1 ≤ u := by omega
    have hnd20 : nDigits u ≤ 20 := by have := numDigits_eq u hu1 hu; split at this <;> omega
    have hal : Tryd.prog.arrayLen 116 = 24 := by kernel_rfl
    have hel : Tryd.prog.elem 116 = 5 := by kernel_rfl
    have hsl1 : ∀ W, (Instr.sliceAt 116 (.pointer (some ⟨w.heap.size, 0, none⟩)) none (some (.int .i64 (nDigits u : Int))) none).run Tryd.prog W = .ok (.slice (some ⟨w.heap.size, 0, none⟩) (nDigits u) 24) W := fun W => by
      rw [run_sliceAt_array_h W 116 ⟨w.heap.size, 0, none⟩ (by first | exact hel | (rw [hel]; rfl) | simp [Program.arrayLen, Program.elem, Tryd.underlying116]) .i64 (nDigits u : Int) (by omega) (by rw [hal]; omega)]
      go_simp
      try omega
    have hH0 := holds_zero20 w 116 (nDigits u) (by omega)
    have hfmt := Tryd.internal_strconv_formatBase10 w.heap.size 0 24 u (Array.replicate (nDigits u) 0) (w.alloc (.cells zeros24 116)) hH0 (by rw [Array.size_replicate]; exact lt_pow_nDigits u) hu (by rw [Array.size_replicate]; omega)
    rw [Array.size_replicate] at hfmt
    have HH0 := Lib.hid hH0
    have Hfmt := Lib.hid hfmt
    clear hH0 hal hel hfmt
    go_enter Tryd.func92, Tryd.ntmps92
    go_wp2_with (go_at_call 101; refine (Tryd.internal_strconv_numDigits u hu1 hu _ (tabIs_alloc htab _)).mono ?_; rintro e w' ⟨rfl, rfl⟩)
    refine Hfmt.out.mono ?_
    rintro e w' ⟨rfl, k, v', dk, rfl, hF⟩
    have hcv : (convert 72 9 (.slice (some ⟨w.heap.size, 0, none⟩) (nDigits u) 24)).run Tryd.prog ((putRow (fun (b : UInt8) => Value.int .u8 (b.toNat : Int)) (w.alloc (.cells zeros24 116)) w.heap.size 0 dk).drewN k) = .ok (.string ⟨(decDigits u).toArray⟩) ((putRow (fun (b : UInt8) => Value.int .u8 (b.toNat : Int)) (w.alloc (.cells zeros24 116)) w.heap.size 0 dk).drewN k) := by
      have h := run_convert_bytes_back (P := Tryd.prog) ((putRow (fun (b : UInt8) => Value.int .u8 (b.toNat : Int)) (w.alloc (.cells zeros24 116)) w.heap.size 0 dk).drewN k) 72 9 5 ⟨w.heap.size, 0, none⟩ 24 (decDigits u) Tryd.underlying72 Tryd.underlying5 Tryd.underlying9 (fun j hj => by
        rw [row_is_numeral hF j hj, Lib.add_plain, World.cell?_drewN]
        exact cell?_putRow (fun (b : UInt8) => Value.int .u8 (b.toNat : Int)) _ w.heap.size 0 _ dk HH0.out (by rw [hF.size, Array.size_replicate]) j (by rw [hF.size]; rw [decDigits_length] at hj; exact hj))
      rw [decDigits_length] at h
      exact h
    go_wp2
    go_ret
    exact ⟨rfl, fin_pos20 w _ dk k⟩

set_option maxHeartbeats 400000 in
theorem digits_any (n : Nat) (hn : n < 4294967296) (w : World) (htab : Tab w) :
    Calls Tryd.prog 64 #[.int .u32 (n : Nat)] w fun e w' => e = .returned (.string ⟨(decDigits n).toArray⟩) ∧ Below w.heap.size w w' := by
  go_enter Tryd.func64, Tryd.ntmps64
  go_wp2_with (first | (go_at_call 92; refine (FmtUint_any n _ (by omega) htab).mono ?_; rintro e w' ⟨rfl, hb⟩) | go_in)
  go_ret
  exact ⟨rfl, hb⟩
end Go.Proofs.YtippcalhcnjghaaDoor
