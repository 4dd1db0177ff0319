/- Texts put together: SxReadAll. -/
import Derived.Test.YtcpkejonpnmljaaSexpLongCardM3
import Derived.Deep.LoopGhost
/- (*sexp.reader).readAll. -/
namespace Go.Proofs.Ytcpkejonpnmljaa
open Go.RowKit

def sxRun (s : ByteArray) : Nat → Nat → List Lp → Lp → Except (Nat × Nat) (List Lp × Lp)
  | 0, _, f, l => .ok (f, l)
  | n + 1, a, f, l => if a < s.size then match sxStep s a f l with
      | .error e => .error e
      | .ok (a', f', l') => sxRun s n a' f' l'
    else .ok (f, l)
def RAll (B : Nat) (w : World) (R : Except (Nat × Nat) (List Lp × Lp)) (e : Ending) (w' : World) : Prop :=
  match R with
  | .error (p, er) => e = .returned (.tuple #[.slice none 0 0, .int .i64 (p : Nat), .int .i64 (er : Nat)]) ∧ Below B w w'
  | .ok (f, l) => if f = [] then ∃ v, e = .returned (.tuple #[v, .int .i64 0, .int .i64 0]) ∧ RowAt w' (fun b => B ≤ b) v l.2 ∧ Below B w w'
    else e = .returned (.tuple #[.slice none 0 0, .int .i64 (l.1 : Nat), .int .i64 3]) ∧ Below B w w'
theorem sxStep_err {s : ByteArray} {a : Nat} {f : List Lp} {l : Lp} {p er : Nat} (h : sxStep s a f l = .error (p, er)) : er ≠ 0 := by
  unfold sxStep at h
  simp only at h
  split at h
  · cases h; decide
  · cases h
  · cases h
  · cases h
  · split at h <;> cases h; decide
  · split at h
    · cases h; decide
    · split at h <;> cases h; decide
  · split at h <;> cases h; decide
  · split at h <;> cases h; decide
  · split at h <;> cases h; decide
theorem len12 {vs : List Value} (h : vs.length = 12) : ∃ a b c d e f g h i j k l, vs = [a, b, c, d, e, f, g, h, i, j, k, l] := by
  match vs, h with
  | [a, b, c, d, e, f, g, h, i, j, k, l], _ => exact ⟨a, b, c, d, e, f, g, h, i, j, k, l, rfl⟩

set_option maxRecDepth 100000 in
set_option maxHeartbeats 60000000 in
theorem readAll_any (B g gl cap : Nat) (s : ByteArray) (x : Lv) (w : World) (h : RdAt B w g gl cap s 0 [x]) (hx : x.pr = (0, [])) (hs : s.size ≤ 65536) (hB : B ≤ w.heap.size) :
    Calls Try.prog 15 #[.pointer (some ⟨g, 0, none⟩)] w (RAll B w (sxRun s (s.size + 1) 0 [] (0, []))) := by
  obtain ⟨R, hR⟩ : ∃ R, R = sxRun s (s.size + 1) 0 [] (0, []) := ⟨_, rfl⟩
  rw [← hR]
  have HR := hid hR
  have hst := steps_any g w
  have Hst := hid hst
  have H := hid h
  have Hx := hid hx
  clear hR hst h hx
  go_enter Try.func15, Try.ntmps15
  go_wp2_with fail
  refine Hst.out.mono ?_
  rintro e w1 ⟨rfl, hb1⟩
  have H1 := hid (H.out.below hb1)
  have HB1 := hid (Fr.of_below hB hb1)
  clear hb1 H Hst
  unfold tableV stepF
  go_wp2_with fail
  generalize hW : World.alloc w1 _ = w2
  have hg2 : w2.heap[w1.heap.size]? = some (.cells (tableV g) 58 (0, 0)) := by rw [← hW]; exact heap_alloc_new w1 _
  have hb2 : Below w1.heap.size w1 w2 := by rw [← hW]; exact below1 _ _
  obtain ⟨gs, hgs⟩ : ∃ gs, gs = w1.heap.size := ⟨_, rfl⟩
  rw [← hgs] at hg2 ⊢
  have H2 := hid (H1.out.below hb2)
  have HB2 := hid (HB1.out.trans (Fr.of_below (Nat.le_trans hB HB1.out.bel.size) hb2))
  clear hW hgs hb2 H1 HB1
  go_loopg [] (s.size + 1) (fun gk wr => ∃ a gl cap ls x, RdAt B wr g gl cap s a (ls ++ [x]) ∧ SxInv s a (ls.map Lv.pr) x.pr ∧ s.size - a < gk ∧ Hid (sxRun s gk a (ls.map Lv.pr) x.pr = R) ∧ wr.heap[gs]? = some (.cells (tableV g) 58 (0, 0)) ∧ Hid (Fr B w wr))
  case atStart => exact ⟨0, gl, cap, [], x, H2.out, ⟨Nat.zero_le _, by simp, by simp, by rw [Hx.out]; simp⟩, by omega, by rw [Hx.out]; exact HR.out.symm, hg2, HB2.out⟩
  case round =>
    obtain ⟨a, gl, cap, ls, x, hrd, hinv, hgk, hrun, hgs, hfr⟩ := hrel
    have Hrd := hid hrd; have Hinv := hid hinv; have Hgs := hid hgs
    have c0 := hrd.c0; have c1 := hrd.c1
    have hal := hinv.le
    have hai : (a : Int) ≤ 65536 := by omega
    clear hrd hinv hgs
    obtain ⟨m, hm⟩ : ∃ m, gk = m + 1 := ⟨gk - 1, by omega⟩
    have Hm := hid hm
    clear hm
    by_cases hlt : a < s.size
    · have hl1 : (a : Int) < (s.size : Int) := by omega
      go_wp2_with fail
      go_quiet (fail)
      go_wp2_with fail
      obtain ⟨w2, hW⟩ : ∃ w2, w2 = wr.drewN nq := ⟨_, rfl⟩
      have hbw : Below wr.heap.size wr w2 := by rw [hW]; exact below_drewN (Below.refl _ _) _
      have Hbw := hid hbw
      have HBs : Hid (B ≤ w2.heap.size) := Nat.le_trans (Nat.le_trans hB hfr.out.bel.size) hbw.size
      rw [← hW]
      have Hrd2 := hid (Hrd.out.below hbw)
      have HS : Hid (∀ w', Below w2.heap.size w2 w' → w'.cell? ⟨g, 0, none⟩ = some (.string s) ∧ w'.cell? ⟨g, 1, none⟩ = some (.int .i64 (a : Nat)) ∧ w'.heap[gs]? = some (.cells (tableV g) 58 (0, 0))) := fun w' hb => by
        have h1 := Hrd2.out.below hb
        refine ⟨h1.c0, h1.c1, ?_⟩
        have h2 := (hbw.block gs (lt_of_heap Hgs.out)).trans Hgs.out
        exact (hb.block gs (lt_of_heap h2)).trans h2
      obtain ⟨k, hk⟩ : ∃ k, k = sxSort (s[a]'hlt).toNat := ⟨_, rfl⟩
      have hkat : sxAt s a = k := by
        unfold sxAt
        rw [hk]
        congr 2
        rw [List.getD_eq_getElem?_getD, List.getElem?_eq_getElem (by simpa using hlt)]; rfl
      have hk9 : k < 9 := by rw [hk]; exact sxSort_lt _
      have hso : ∀ W, Calls Try.prog 23 #[.int .u8 ((s[a]'hlt).toNat : Nat)] W (fun e w' => e = .returned (.int .i64 (k : Nat)) ∧ Below W.heap.size W w') := fun W => by
        rw [hk]
        exact (sortOf_any (s[a]'hlt).toNat (UInt8.toNat_lt _) W).mono fun _ _ h => ⟨h.1, by rw [← h.2]; exact Below.refl _ _⟩
      have Hkat := hid hkat
      have Hso := hid hso
      have i0 : (0 : Int) ≤ (a : Int) := by omega
      have i1 : ((a : Int)).toNat = a := by omega
      have i2 : (a : Int) < (s.size : Int) := by omega
      clear hk hW hbw hkat c0 c1 hl1 hso
      rcases (show k = 0 ∨ k = 1 ∨ k = 2 ∨ k = 3 ∨ k = 4 ∨ k = 5 ∨ k = 6 ∨ k = 7 ∨ k = 8 by omega) with rfl | rfl | rfl | rfl | rfl | rfl | rfl | rfl | rfl
      · refine wp_region_facts12 (w0 := w2) 12 6 [21, 22, 23, 24, 25, 26, 27, 28, 29, 30, 31, 32] [u21, u22, u23, u24, u25, u26, u27, u28, u29, u30, u31, u32]
          (fun i => match i with | 0 => sxEq (.pointer (some ⟨g, 0, none⟩)) | 1 => sxEq (.pointer (some ⟨g, 0, none⟩)) | 2 => sxEq (.pointer (some ⟨g, 0, none⟩)) | 3 => sxEq (.string s) | 4 => sxEq (.pointer (some ⟨g, 0, none⟩)) | 5 => sxEq (.pointer (some ⟨g, 0, none⟩)) | 6 => sxEq (.pointer (some ⟨g, 1, none⟩)) | 7 => sxEq (.int .i64 (a : Nat)) | 8 => sxEq (.int .u8 ((s[a]'hlt).toNat : Nat)) | 9 => sxEq (.int .i64 0) | 10 => sxEq (.pointer (some ⟨gs, 0, none⟩)) | _ => sxEq (stepF g 31)) [] (by kernel_rfl) (by kernel_rfl) (by kernel_rfl) (by kernel_rfl) (by decide) rfl (by kernel_rfl) rfl (by simp) ?he1 ?_ ?_ ?_
        case he1 => simp only [putAll, Act.put, List.setIfInBounds_toArray, List.set_cons_zero, List.set_cons_succ]
        · intro i hi; simp at hi
        · intro i o hi ho vs wx hvl hb hdep K hK
          have hvs := len12 hvl
          obtain ⟨s21, s22, s23, s24, s25, s26, s27, s28, s29, s30, s31, s32, rfl⟩ := hvs
          clear hvl
          have hk := HS.out wx hb
          obtain ⟨hk0, hk1, hk2⟩ := hk
          have hk3 : wx.cell? ⟨gs, 0, none⟩ = some (stepF g 31) := by rw [cell_of_row wx gs 0 _ _ (0, 0) hk2]; rfl
          clear hk2
          rcases i with _ | _ | _ | _ | _ | _ | _ | _ | _ | _ | _ | _ | i
          all_goals (simp only [List.getElem?_toArray, List.getElem?_cons_zero, List.getElem?_cons_succ, Option.some.injEq] at ho)
          all_goals try (subst ho)
          all_goals try simp only [putAll, Act.put, List.setIfInBounds_toArray, List.set_cons_zero, List.set_cons_succ]
          · go_simp
            have hK' := hK.out
            simp only [putAll, Act.put, List.setIfInBounds_toArray, List.set_cons_zero, List.set_cons_succ] at hK'
            exact hK' _ _ rfl (Below.refl _ _) (by simp)
          · have e0 : s21 = _ := hdep ⟨0, .data⟩ (by simp) rfl
            subst e0
            go_simp
            have hK' := hK.out
            simp only [putAll, Act.put, List.setIfInBounds_toArray, List.set_cons_zero, List.set_cons_succ] at hK'
            exact hK' _ _ rfl (Below.refl _ _) (by simp)
          · have e1 : s22 = _ := hdep ⟨1, .data⟩ (by simp) rfl
            subst e1
            go_simp
            have hK' := hK.out
            simp only [putAll, Act.put, List.setIfInBounds_toArray, List.set_cons_zero, List.set_cons_succ] at hK'
            exact hK' _ _ rfl (Below.refl _ _) (by simp)
          · have e2 : s23 = _ := hdep ⟨2, .data⟩ (by simp) rfl
            subst e2
            go_simp
            have hK' := hK.out
            simp only [putAll, Act.put, List.setIfInBounds_toArray, List.set_cons_zero, List.set_cons_succ] at hK'
            exact hK' _ _ rfl (Below.refl _ _) (by simp)
          · go_simp
            have hK' := hK.out
            simp only [putAll, Act.put, List.setIfInBounds_toArray, List.set_cons_zero, List.set_cons_succ] at hK'
            exact hK' _ _ rfl (Below.refl _ _) (by simp)
          · have e4 : s25 = _ := hdep ⟨4, .data⟩ (by simp) rfl
            subst e4
            go_simp
            have hK' := hK.out
            simp only [putAll, Act.put, List.setIfInBounds_toArray, List.set_cons_zero, List.set_cons_succ] at hK'
            exact hK' _ _ rfl (Below.refl _ _) (by simp)
          · have e5 : s26 = _ := hdep ⟨5, .data⟩ (by simp) rfl
            subst e5
            go_simp
            have hK' := hK.out
            simp only [putAll, Act.put, List.setIfInBounds_toArray, List.set_cons_zero, List.set_cons_succ] at hK'
            exact hK' _ _ rfl (Below.refl _ _) (by simp)
          · have e6 : s27 = _ := hdep ⟨6, .data⟩ (by simp) rfl
            subst e6
            go_simp
            have hK' := hK.out
            simp only [putAll, Act.put, List.setIfInBounds_toArray, List.set_cons_zero, List.set_cons_succ] at hK'
            exact hK' _ _ rfl (Below.refl _ _) (by simp)
          · have e3 : s24 = _ := hdep ⟨3, .data⟩ (by simp) rfl
            subst e3
            have e7 : s28 = _ := hdep ⟨7, .data⟩ (by simp) rfl
            subst e7
            go_simp
            have hK' := hK.out
            simp only [putAll, Act.put, List.setIfInBounds_toArray, List.set_cons_zero, List.set_cons_succ] at hK'
            exact hK' _ _ rfl (Below.refl _ _) (by simp)
          · have e8 : s29 = _ := hdep ⟨8, .data⟩ (by simp) rfl
            subst e8
            go_simp
            refine (Hso.out _).mono ?_
            rintro e wy ⟨rfl, hby⟩
            go_wp2_with fail
            have hK' := hK.out
            simp only [putAll, Act.put, List.setIfInBounds_toArray, List.set_cons_zero, List.set_cons_succ] at hK'
            exact hK' _ _ rfl hby (by simp)
          · have e9 : s30 = _ := hdep ⟨9, .data⟩ (by simp) rfl
            subst e9
            go_simp
            have hK' := hK.out
            simp only [putAll, Act.put, List.setIfInBounds_toArray, List.set_cons_zero, List.set_cons_succ] at hK'
            exact hK' _ _ rfl (Below.refl _ _) (by simp)
          · have e10 : s31 = _ := hdep ⟨10, .data⟩ (by simp) rfl
            subst e10
            go_simp
            have hK' := hK.out
            simp only [putAll, Act.put, List.setIfInBounds_toArray, List.set_cons_zero, List.set_cons_succ] at hK'
            exact hK' _ _ rfl (Below.refl _ _) (by simp)
          · omega
        · intro vs wx hvl hb hf hdist
          have hvs := len12 hvl
          obtain ⟨s21, s22, s23, s24, s25, s26, s27, s28, s29, s30, s31, s32, rfl⟩ := hvs
          have f0 : s21 = .pointer (some ⟨g, 0, none⟩) := hf 0 (by decide)
          have f11 : s32 = stepF g 31 := hf 11 (by decide)
          subst f0 f11
          clear hf hdist hvl
          have hmod := model_0 (Hrd2.out.below hb) Hinv.out hlt hs (Nat.le_trans HBs.out hb.size) Hkat.out
          have Hmod := hid hmod
          have Hb := hid hb
          clear hmod hb
          refine wpAny_one (i := 12) (by kernel_rfl) rfl ?_
          intro K hK
          try simp only [putAll, Act.put, List.setIfInBounds_toArray, List.set_cons_zero, List.set_cons_succ]
          unfold stepF
          go_simp
          refine Hmod.out.mono ?_
          rintro e w3 hmd
          rcases hres : sxStep s a (ls.map Lv.pr) x.pr with ⟨p, er⟩ | ⟨a', f', l'⟩
          · rw [hres] at hmd
            obtain ⟨rfl, n3, rfl⟩ := hmd
            have Hres := hid hres
            clear hres
            go_wp2_with fail
            have hK' := hK.out
            apply hK'
            clear hK hK'
            refine wpAny_one (i := 13) (by kernel_rfl) rfl ?_
            intro K hK
            go_simp
            have hK' := hK.out
            apply hK'
            clear hK hK'
            refine wpAny_take (i := 14) (oi := _) (v := .int .i64 (p : Nat)) rfl (by kernel_rfl) (by kernel_rfl) (by kernel_rfl) (fun _ _ _ h => h) (Or.inl ⟨by rfl, ?_⟩) ?_
            · intro w; go_simp
            show wpAny _ _ _ _ _ _ (Act.put _ (some 34) _) _
            try simp only [putAll, Act.put, List.setIfInBounds_toArray, List.set_cons_zero, List.set_cons_succ]
            refine wpAny_take (i := 15) (oi := _) (v := .int .i64 (er : Nat)) rfl (by kernel_rfl) (by kernel_rfl) (by kernel_rfl) (fun _ _ _ h => h) (Or.inl ⟨by rfl, ?_⟩) ?_
            · intro w; go_simp
            show wpAny _ _ _ _ _ _ (Act.put _ (some 35) _) _
            try simp only [putAll, Act.put, List.setIfInBounds_toArray, List.set_cons_zero, List.set_cons_succ]
            refine wpAny_take (i := 16) (oi := _) (v := .int .i64 (p : Nat)) rfl (by kernel_rfl) (by kernel_rfl) (by kernel_rfl) (fun _ _ _ h => h) (Or.inl ⟨by rfl, ?_⟩) ?_
            · intro w; go_simp
            show wpAny _ _ _ _ _ _ (Act.put _ (some 6) _) _
            try simp only [putAll, Act.put, List.setIfInBounds_toArray, List.set_cons_zero, List.set_cons_succ]
            refine wpAny_take (i := 17) (oi := _) (v := .int .i64 (er : Nat)) rfl (by kernel_rfl) (by kernel_rfl) (by kernel_rfl) (fun _ _ _ h => h) (Or.inl ⟨by rfl, ?_⟩) ?_
            · intro w; go_simp
            show wpAny _ _ _ _ _ _ (Act.put _ (some 7) _) _
            try simp only [putAll, Act.put, List.setIfInBounds_toArray, List.set_cons_zero, List.set_cons_succ]
            refine wpAny_done (by kernel_rfl) ?_ _
            have hne := sxStep_err Hres.out
            have hnb : ((er : Int) != 0) = true := by rw [bne_iff_ne]; omega
            have Hne := hid hne
            clear hne
            have hR2 : Hid (R = .error (p, er)) := by
              have h9 := hrun.out
              rw [Hm.out, sxRun, if_pos hlt, Hres.out] at h9
              exact h9.symm
            have hbel : Hid (Below B w (wx.drewN n3)) := ((((hfr.out.trans (Fr.of_below (Nat.le_trans hB hfr.out.bel.size) Hbw.out)).trans (Fr.of_below HBs.out Hb.out))).trans (Fr.drewN B wx n3)).bel
            go_wp2_with fail
            go_ret3
            rw [hR2.out]
            exact ⟨rfl, hbel.out⟩
          · rw [hres] at hmd
            obtain ⟨rfl, gl', cap', ls', x', h3, hf3, hl3, hfr⟩ := hmd
            have Hres := hid hres
            have H3 := hid h3; have Hf3 := hid hf3; have Hl3 := hid hl3; have Hfr := hid hfr
            clear hres h3 hf3 hl3 hfr
            go_wp2_with fail
            have hK' := hK.out
            apply hK'
            clear hK hK'
            refine wpAny_one (i := 13) (by kernel_rfl) rfl ?_
            intro K hK
            go_simp
            have hK' := hK.out
            apply hK'
            clear hK hK'
            refine wpAny_take (i := 14) (oi := _) (v := .int .i64 0) rfl (by kernel_rfl) (by kernel_rfl) (by kernel_rfl) (fun _ _ _ h => h) (Or.inl ⟨by rfl, ?_⟩) ?_
            · intro w; go_simp
            show wpAny _ _ _ _ _ _ (Act.put _ (some 34) _) _
            try simp only [putAll, Act.put, List.setIfInBounds_toArray, List.set_cons_zero, List.set_cons_succ]
            refine wpAny_take (i := 15) (oi := _) (v := .int .i64 0) rfl (by kernel_rfl) (by kernel_rfl) (by kernel_rfl) (fun _ _ _ h => h) (Or.inl ⟨by rfl, ?_⟩) ?_
            · intro w; go_simp
            show wpAny _ _ _ _ _ _ (Act.put _ (some 35) _) _
            try simp only [putAll, Act.put, List.setIfInBounds_toArray, List.set_cons_zero, List.set_cons_succ]
            refine wpAny_take (i := 16) (oi := _) (v := .int .i64 0) rfl (by kernel_rfl) (by kernel_rfl) (by kernel_rfl) (fun _ _ _ h => h) (Or.inl ⟨by rfl, ?_⟩) ?_
            · intro w; go_simp
            show wpAny _ _ _ _ _ _ (Act.put _ (some 6) _) _
            try simp only [putAll, Act.put, List.setIfInBounds_toArray, List.set_cons_zero, List.set_cons_succ]
            refine wpAny_take (i := 17) (oi := _) (v := .int .i64 0) rfl (by kernel_rfl) (by kernel_rfl) (by kernel_rfl) (fun _ _ _ h => h) (Or.inl ⟨by rfl, ?_⟩) ?_
            · intro w; go_simp
            show wpAny _ _ _ _ _ _ (Act.put _ (some 7) _) _
            try simp only [putAll, Act.put, List.setIfInBounds_toArray, List.set_cons_zero, List.set_cons_succ]
            refine wpAny_done (by kernel_rfl) ?_ _
            have hst := sxStep_ok Hinv.out hlt Hres.out
            have Hst := hid hst
            clear hst
            have hgx := (HS.out wx Hb.out).2.2
            have Hgx := hid hgx
            clear hgx
            have hfr3 : Hid (Fr B w w3) := (((hfr.out.trans (Fr.of_below (Nat.le_trans hB hfr.out.bel.size) Hbw.out)).trans (Fr.of_below HBs.out Hb.out))).trans Hfr.out
            go_wp2_with fail
            go_roundg m
            case measure => have := Hm.out; omega
            case rel => exact ⟨a', gl', cap', ls', x', H3.out, by rw [Hf3.out, Hl3.out]; exact Hst.out.2, by have h8 := Hst.out.1; have h9 := Hst.out.2.le; have := Hm.out; omega, by rw [Hf3.out, Hl3.out]; have h9 := hrun.out; rw [Hm.out, sxRun, if_pos hlt, Hres.out] at h9; exact h9, (Hfr.out.kept gs _ _ _ Hgx.out (by decide) (by decide) (by decide)).trans Hgx.out, hfr3.out⟩
      · refine wp_region_facts12 (w0 := w2) 12 6 [21, 22, 23, 24, 25, 26, 27, 28, 29, 30, 31, 32] [u21, u22, u23, u24, u25, u26, u27, u28, u29, u30, u31, u32]
          (fun i => match i with | 0 => sxEq (.pointer (some ⟨g, 0, none⟩)) | 1 => sxEq (.pointer (some ⟨g, 0, none⟩)) | 2 => sxEq (.pointer (some ⟨g, 0, none⟩)) | 3 => sxEq (.string s) | 4 => sxEq (.pointer (some ⟨g, 0, none⟩)) | 5 => sxEq (.pointer (some ⟨g, 0, none⟩)) | 6 => sxEq (.pointer (some ⟨g, 1, none⟩)) | 7 => sxEq (.int .i64 (a : Nat)) | 8 => sxEq (.int .u8 ((s[a]'hlt).toNat : Nat)) | 9 => sxEq (.int .i64 1) | 10 => sxEq (.pointer (some ⟨gs, 1, none⟩)) | _ => sxEq (stepF g 32)) [] (by kernel_rfl) (by kernel_rfl) (by kernel_rfl) (by kernel_rfl) (by decide) rfl (by kernel_rfl) rfl (by simp) ?he2 ?_ ?_ ?_
        case he2 => simp only [putAll, Act.put, List.setIfInBounds_toArray, List.set_cons_zero, List.set_cons_succ]
        · intro i hi; simp at hi
        · intro i o hi ho vs wx hvl hb hdep K hK
          have hvs := len12 hvl
          obtain ⟨s21, s22, s23, s24, s25, s26, s27, s28, s29, s30, s31, s32, rfl⟩ := hvs
          clear hvl
          have hk := HS.out wx hb
          obtain ⟨hk0, hk1, hk2⟩ := hk
          have hk3 : wx.cell? ⟨gs, 1, none⟩ = some (stepF g 32) := by rw [cell_of_row wx gs 1 _ _ (0, 0) hk2]; rfl
          clear hk2
          rcases i with _ | _ | _ | _ | _ | _ | _ | _ | _ | _ | _ | _ | i
          all_goals (simp only [List.getElem?_toArray, List.getElem?_cons_zero, List.getElem?_cons_succ, Option.some.injEq] at ho)
          all_goals try (subst ho)
          all_goals try simp only [putAll, Act.put, List.setIfInBounds_toArray, List.set_cons_zero, List.set_cons_succ]
          · go_simp
            have hK' := hK.out
            simp only [putAll, Act.put, List.setIfInBounds_toArray, List.set_cons_zero, List.set_cons_succ] at hK'
            exact hK' _ _ rfl (Below.refl _ _) (by simp)
          · have e0 : s21 = _ := hdep ⟨0, .data⟩ (by simp) rfl
            subst e0
            go_simp
            have hK' := hK.out
            simp only [putAll, Act.put, List.setIfInBounds_toArray, List.set_cons_zero, List.set_cons_succ] at hK'
            exact hK' _ _ rfl (Below.refl _ _) (by simp)
          · have e1 : s22 = _ := hdep ⟨1, .data⟩ (by simp) rfl
            subst e1
            go_simp
            have hK' := hK.out
            simp only [putAll, Act.put, List.setIfInBounds_toArray, List.set_cons_zero, List.set_cons_succ] at hK'
            exact hK' _ _ rfl (Below.refl _ _) (by simp)
          · have e2 : s23 = _ := hdep ⟨2, .data⟩ (by simp) rfl
            subst e2
            go_simp
            have hK' := hK.out
            simp only [putAll, Act.put, List.setIfInBounds_toArray, List.set_cons_zero, List.set_cons_succ] at hK'
            exact hK' _ _ rfl (Below.refl _ _) (by simp)
          · go_simp
            have hK' := hK.out
            simp only [putAll, Act.put, List.setIfInBounds_toArray, List.set_cons_zero, List.set_cons_succ] at hK'
            exact hK' _ _ rfl (Below.refl _ _) (by simp)
          · have e4 : s25 = _ := hdep ⟨4, .data⟩ (by simp) rfl
            subst e4
            go_simp
            have hK' := hK.out
            simp only [putAll, Act.put, List.setIfInBounds_toArray, List.set_cons_zero, List.set_cons_succ] at hK'
            exact hK' _ _ rfl (Below.refl _ _) (by simp)
          · have e5 : s26 = _ := hdep ⟨5, .data⟩ (by simp) rfl
            subst e5
            go_simp
            have hK' := hK.out
            simp only [putAll, Act.put, List.setIfInBounds_toArray, List.set_cons_zero, List.set_cons_succ] at hK'
            exact hK' _ _ rfl (Below.refl _ _) (by simp)
          · have e6 : s27 = _ := hdep ⟨6, .data⟩ (by simp) rfl
            subst e6
            go_simp
            have hK' := hK.out
            simp only [putAll, Act.put, List.setIfInBounds_toArray, List.set_cons_zero, List.set_cons_succ] at hK'
            exact hK' _ _ rfl (Below.refl _ _) (by simp)
          · have e3 : s24 = _ := hdep ⟨3, .data⟩ (by simp) rfl
            subst e3
            have e7 : s28 = _ := hdep ⟨7, .data⟩ (by simp) rfl
            subst e7
            go_simp
            have hK' := hK.out
            simp only [putAll, Act.put, List.setIfInBounds_toArray, List.set_cons_zero, List.set_cons_succ] at hK'
            exact hK' _ _ rfl (Below.refl _ _) (by simp)
          · have e8 : s29 = _ := hdep ⟨8, .data⟩ (by simp) rfl
            subst e8
            go_simp
            refine (Hso.out _).mono ?_
            rintro e wy ⟨rfl, hby⟩
            go_wp2_with fail
            have hK' := hK.out
            simp only [putAll, Act.put, List.setIfInBounds_toArray, List.set_cons_zero, List.set_cons_succ] at hK'
            exact hK' _ _ rfl hby (by simp)
          · have e9 : s30 = _ := hdep ⟨9, .data⟩ (by simp) rfl
            subst e9
            go_simp
            have hK' := hK.out
            simp only [putAll, Act.put, List.setIfInBounds_toArray, List.set_cons_zero, List.set_cons_succ] at hK'
            exact hK' _ _ rfl (Below.refl _ _) (by simp)
          · have e10 : s31 = _ := hdep ⟨10, .data⟩ (by simp) rfl
            subst e10
            go_simp
            have hK' := hK.out
            simp only [putAll, Act.put, List.setIfInBounds_toArray, List.set_cons_zero, List.set_cons_succ] at hK'
            exact hK' _ _ rfl (Below.refl _ _) (by simp)
          · omega
        · intro vs wx hvl hb hf hdist
          have hvs := len12 hvl
          obtain ⟨s21, s22, s23, s24, s25, s26, s27, s28, s29, s30, s31, s32, rfl⟩ := hvs
          have f0 : s21 = .pointer (some ⟨g, 0, none⟩) := hf 0 (by decide)
          have f11 : s32 = stepF g 32 := hf 11 (by decide)
          subst f0 f11
          clear hf hdist hvl
          have hmod := model_1 (Hrd2.out.below hb) Hinv.out hlt hs (Nat.le_trans HBs.out hb.size) Hkat.out
          have Hmod := hid hmod
          have Hb := hid hb
          clear hmod hb
          refine wpAny_one (i := 12) (by kernel_rfl) rfl ?_
          intro K hK
          try simp only [putAll, Act.put, List.setIfInBounds_toArray, List.set_cons_zero, List.set_cons_succ]
          unfold stepF
          go_simp
          refine Hmod.out.mono ?_
          rintro e w3 hmd
          rcases hres : sxStep s a (ls.map Lv.pr) x.pr with ⟨p, er⟩ | ⟨a', f', l'⟩
          · rw [hres] at hmd
            obtain ⟨rfl, n3, rfl⟩ := hmd
            have Hres := hid hres
            clear hres
            go_wp2_with fail
            have hK' := hK.out
            apply hK'
            clear hK hK'
            refine wpAny_one (i := 13) (by kernel_rfl) rfl ?_
            intro K hK
            go_simp
            have hK' := hK.out
            apply hK'
            clear hK hK'
            refine wpAny_take (i := 14) (oi := _) (v := .int .i64 (p : Nat)) rfl (by kernel_rfl) (by kernel_rfl) (by kernel_rfl) (fun _ _ _ h => h) (Or.inl ⟨by rfl, ?_⟩) ?_
            · intro w; go_simp
            show wpAny _ _ _ _ _ _ (Act.put _ (some 34) _) _
            try simp only [putAll, Act.put, List.setIfInBounds_toArray, List.set_cons_zero, List.set_cons_succ]
            refine wpAny_take (i := 15) (oi := _) (v := .int .i64 (er : Nat)) rfl (by kernel_rfl) (by kernel_rfl) (by kernel_rfl) (fun _ _ _ h => h) (Or.inl ⟨by rfl, ?_⟩) ?_
            · intro w; go_simp
            show wpAny _ _ _ _ _ _ (Act.put _ (some 35) _) _
            try simp only [putAll, Act.put, List.setIfInBounds_toArray, List.set_cons_zero, List.set_cons_succ]
            refine wpAny_take (i := 16) (oi := _) (v := .int .i64 (p : Nat)) rfl (by kernel_rfl) (by kernel_rfl) (by kernel_rfl) (fun _ _ _ h => h) (Or.inl ⟨by rfl, ?_⟩) ?_
            · intro w; go_simp
            show wpAny _ _ _ _ _ _ (Act.put _ (some 6) _) _
            try simp only [putAll, Act.put, List.setIfInBounds_toArray, List.set_cons_zero, List.set_cons_succ]
            refine wpAny_take (i := 17) (oi := _) (v := .int .i64 (er : Nat)) rfl (by kernel_rfl) (by kernel_rfl) (by kernel_rfl) (fun _ _ _ h => h) (Or.inl ⟨by rfl, ?_⟩) ?_
            · intro w; go_simp
            show wpAny _ _ _ _ _ _ (Act.put _ (some 7) _) _
            try simp only [putAll, Act.put, List.setIfInBounds_toArray, List.set_cons_zero, List.set_cons_succ]
            refine wpAny_done (by kernel_rfl) ?_ _
            have hne := sxStep_err Hres.out
            have hnb : ((er : Int) != 0) = true := by rw [bne_iff_ne]; omega
            have Hne := hid hne
            clear hne
            have hR2 : Hid (R = .error (p, er)) := by
              have h9 := hrun.out
              rw [Hm.out, sxRun, if_pos hlt, Hres.out] at h9
              exact h9.symm
            have hbel : Hid (Below B w (wx.drewN n3)) := ((((hfr.out.trans (Fr.of_below (Nat.le_trans hB hfr.out.bel.size) Hbw.out)).trans (Fr.of_below HBs.out Hb.out))).trans (Fr.drewN B wx n3)).bel
            go_wp2_with fail
            go_ret3
            rw [hR2.out]
            exact ⟨rfl, hbel.out⟩
          · rw [hres] at hmd
            obtain ⟨rfl, gl', cap', ls', x', h3, hf3, hl3, hfr⟩ := hmd
            have Hres := hid hres
            have H3 := hid h3; have Hf3 := hid hf3; have Hl3 := hid hl3; have Hfr := hid hfr
            clear hres h3 hf3 hl3 hfr
            go_wp2_with fail
            have hK' := hK.out
            apply hK'
            clear hK hK'
            refine wpAny_one (i := 13) (by kernel_rfl) rfl ?_
            intro K hK
            go_simp
            have hK' := hK.out
            apply hK'
            clear hK hK'
            refine wpAny_take (i := 14) (oi := _) (v := .int .i64 0) rfl (by kernel_rfl) (by kernel_rfl) (by kernel_rfl) (fun _ _ _ h => h) (Or.inl ⟨by rfl, ?_⟩) ?_
            · intro w; go_simp
            show wpAny _ _ _ _ _ _ (Act.put _ (some 34) _) _
            try simp only [putAll, Act.put, List.setIfInBounds_toArray, List.set_cons_zero, List.set_cons_succ]
            refine wpAny_take (i := 15) (oi := _) (v := .int .i64 0) rfl (by kernel_rfl) (by kernel_rfl) (by kernel_rfl) (fun _ _ _ h => h) (Or.inl ⟨by rfl, ?_⟩) ?_
            · intro w; go_simp
            show wpAny _ _ _ _ _ _ (Act.put _ (some 35) _) _
            try simp only [putAll, Act.put, List.setIfInBounds_toArray, List.set_cons_zero, List.set_cons_succ]
            refine wpAny_take (i := 16) (oi := _) (v := .int .i64 0) rfl (by kernel_rfl) (by kernel_rfl) (by kernel_rfl) (fun _ _ _ h => h) (Or.inl ⟨by rfl, ?_⟩) ?_
            · intro w; go_simp
            show wpAny _ _ _ _ _ _ (Act.put _ (some 6) _) _
            try simp only [putAll, Act.put, List.setIfInBounds_toArray, List.set_cons_zero, List.set_cons_succ]
            refine wpAny_take (i := 17) (oi := _) (v := .int .i64 0) rfl (by kernel_rfl) (by kernel_rfl) (by kernel_rfl) (fun _ _ _ h => h) (Or.inl ⟨by rfl, ?_⟩) ?_
            · intro w; go_simp
            show wpAny _ _ _ _ _ _ (Act.put _ (some 7) _) _
            try simp only [putAll, Act.put, List.setIfInBounds_toArray, List.set_cons_zero, List.set_cons_succ]
            refine wpAny_done (by kernel_rfl) ?_ _
            have hst := sxStep_ok Hinv.out hlt Hres.out
            have Hst := hid hst
            clear hst
            have hgx := (HS.out wx Hb.out).2.2
            have Hgx := hid hgx
            clear hgx
            have hfr3 : Hid (Fr B w w3) := (((hfr.out.trans (Fr.of_below (Nat.le_trans hB hfr.out.bel.size) Hbw.out)).trans (Fr.of_below HBs.out Hb.out))).trans Hfr.out
            go_wp2_with fail
            go_roundg m
            case measure => have := Hm.out; omega
            case rel => exact ⟨a', gl', cap', ls', x', H3.out, by rw [Hf3.out, Hl3.out]; exact Hst.out.2, by have h8 := Hst.out.1; have h9 := Hst.out.2.le; have := Hm.out; omega, by rw [Hf3.out, Hl3.out]; have h9 := hrun.out; rw [Hm.out, sxRun, if_pos hlt, Hres.out] at h9; exact h9, (Hfr.out.kept gs _ _ _ Hgx.out (by decide) (by decide) (by decide)).trans Hgx.out, hfr3.out⟩
      · refine wp_region_facts12 (w0 := w2) 12 6 [21, 22, 23, 24, 25, 26, 27, 28, 29, 30, 31, 32] [u21, u22, u23, u24, u25, u26, u27, u28, u29, u30, u31, u32]
          (fun i => match i with | 0 => sxEq (.pointer (some ⟨g, 0, none⟩)) | 1 => sxEq (.pointer (some ⟨g, 0, none⟩)) | 2 => sxEq (.pointer (some ⟨g, 0, none⟩)) | 3 => sxEq (.string s) | 4 => sxEq (.pointer (some ⟨g, 0, none⟩)) | 5 => sxEq (.pointer (some ⟨g, 0, none⟩)) | 6 => sxEq (.pointer (some ⟨g, 1, none⟩)) | 7 => sxEq (.int .i64 (a : Nat)) | 8 => sxEq (.int .u8 ((s[a]'hlt).toNat : Nat)) | 9 => sxEq (.int .i64 2) | 10 => sxEq (.pointer (some ⟨gs, 2, none⟩)) | _ => sxEq (stepF g 33)) [] (by kernel_rfl) (by kernel_rfl) (by kernel_rfl) (by kernel_rfl) (by decide) rfl (by kernel_rfl) rfl (by simp) ?he3 ?_ ?_ ?_
        case he3 => simp only [putAll, Act.put, List.setIfInBounds_toArray, List.set_cons_zero, List.set_cons_succ]
        · intro i hi; simp at hi
        · intro i o hi ho vs wx hvl hb hdep K hK
          have hvs := len12 hvl
          obtain ⟨s21, s22, s23, s24, s25, s26, s27, s28, s29, s30, s31, s32, rfl⟩ := hvs
          clear hvl
          have hk := HS.out wx hb
          obtain ⟨hk0, hk1, hk2⟩ := hk
          have hk3 : wx.cell? ⟨gs, 2, none⟩ = some (stepF g 33) := by rw [cell_of_row wx gs 2 _ _ (0, 0) hk2]; rfl
          clear hk2
          rcases i with _ | _ | _ | _ | _ | _ | _ | _ | _ | _ | _ | _ | i
          all_goals (simp only [List.getElem?_toArray, List.getElem?_cons_zero, List.getElem?_cons_succ, Option.some.injEq] at ho)
          all_goals try (subst ho)
          all_goals try simp only [putAll, Act.put, List.setIfInBounds_toArray, List.set_cons_zero, List.set_cons_succ]
          · go_simp
            have hK' := hK.out
            simp only [putAll, Act.put, List.setIfInBounds_toArray, List.set_cons_zero, List.set_cons_succ] at hK'
            exact hK' _ _ rfl (Below.refl _ _) (by simp)
          · have e0 : s21 = _ := hdep ⟨0, .data⟩ (by simp) rfl
            subst e0
            go_simp
            have hK' := hK.out
            simp only [putAll, Act.put, List.setIfInBounds_toArray, List.set_cons_zero, List.set_cons_succ] at hK'
            exact hK' _ _ rfl (Below.refl _ _) (by simp)
          · have e1 : s22 = _ := hdep ⟨1, .data⟩ (by simp) rfl
            subst e1
            go_simp
            have hK' := hK.out
            simp only [putAll, Act.put, List.setIfInBounds_toArray, List.set_cons_zero, List.set_cons_succ] at hK'
            exact hK' _ _ rfl (Below.refl _ _) (by simp)
          · have e2 : s23 = _ := hdep ⟨2, .data⟩ (by simp) rfl
            subst e2
            go_simp
            have hK' := hK.out
            simp only [putAll, Act.put, List.setIfInBounds_toArray, List.set_cons_zero, List.set_cons_succ] at hK'
            exact hK' _ _ rfl (Below.refl _ _) (by simp)
          · go_simp
            have hK' := hK.out
            simp only [putAll, Act.put, List.setIfInBounds_toArray, List.set_cons_zero, List.set_cons_succ] at hK'
            exact hK' _ _ rfl (Below.refl _ _) (by simp)
          · have e4 : s25 = _ := hdep ⟨4, .data⟩ (by simp) rfl
            subst e4
            go_simp
            have hK' := hK.out
            simp only [putAll, Act.put, List.setIfInBounds_toArray, List.set_cons_zero, List.set_cons_succ] at hK'
            exact hK' _ _ rfl (Below.refl _ _) (by simp)
          · have e5 : s26 = _ := hdep ⟨5, .data⟩ (by simp) rfl
            subst e5
            go_simp
            have hK' := hK.out
            simp only [putAll, Act.put, List.setIfInBounds_toArray, List.set_cons_zero, List.set_cons_succ] at hK'
            exact hK' _ _ rfl (Below.refl _ _) (by simp)
          · have e6 : s27 = _ := hdep ⟨6, .data⟩ (by simp) rfl
            subst e6
            go_simp
            have hK' := hK.out
            simp only [putAll, Act.put, List.setIfInBounds_toArray, List.set_cons_zero, List.set_cons_succ] at hK'
            exact hK' _ _ rfl (Below.refl _ _) (by simp)
          · have e3 : s24 = _ := hdep ⟨3, .data⟩ (by simp) rfl
            subst e3
            have e7 : s28 = _ := hdep ⟨7, .data⟩ (by simp) rfl
            subst e7
            go_simp
            have hK' := hK.out
            simp only [putAll, Act.put, List.setIfInBounds_toArray, List.set_cons_zero, List.set_cons_succ] at hK'
            exact hK' _ _ rfl (Below.refl _ _) (by simp)
          · have e8 : s29 = _ := hdep ⟨8, .data⟩ (by simp) rfl
            subst e8
            go_simp
            refine (Hso.out _).mono ?_
            rintro e wy ⟨rfl, hby⟩
            go_wp2_with fail
            have hK' := hK.out
            simp only [putAll, Act.put, List.setIfInBounds_toArray, List.set_cons_zero, List.set_cons_succ] at hK'
            exact hK' _ _ rfl hby (by simp)
          · have e9 : s30 = _ := hdep ⟨9, .data⟩ (by simp) rfl
            subst e9
            go_simp
            have hK' := hK.out
            simp only [putAll, Act.put, List.setIfInBounds_toArray, List.set_cons_zero, List.set_cons_succ] at hK'
            exact hK' _ _ rfl (Below.refl _ _) (by simp)
          · have e10 : s31 = _ := hdep ⟨10, .data⟩ (by simp) rfl
            subst e10
            go_simp
            have hK' := hK.out
            simp only [putAll, Act.put, List.setIfInBounds_toArray, List.set_cons_zero, List.set_cons_succ] at hK'
            exact hK' _ _ rfl (Below.refl _ _) (by simp)
          · omega
        · intro vs wx hvl hb hf hdist
          have hvs := len12 hvl
          obtain ⟨s21, s22, s23, s24, s25, s26, s27, s28, s29, s30, s31, s32, rfl⟩ := hvs
          have f0 : s21 = .pointer (some ⟨g, 0, none⟩) := hf 0 (by decide)
          have f11 : s32 = stepF g 33 := hf 11 (by decide)
          subst f0 f11
          clear hf hdist hvl
          have hmod := model_2 (Hrd2.out.below hb) Hinv.out hlt hs (Nat.le_trans HBs.out hb.size) Hkat.out
          have Hmod := hid hmod
          have Hb := hid hb
          clear hmod hb
          refine wpAny_one (i := 12) (by kernel_rfl) rfl ?_
          intro K hK
          try simp only [putAll, Act.put, List.setIfInBounds_toArray, List.set_cons_zero, List.set_cons_succ]
          unfold stepF
          go_simp
          refine Hmod.out.mono ?_
          rintro e w3 hmd
          rcases hres : sxStep s a (ls.map Lv.pr) x.pr with ⟨p, er⟩ | ⟨a', f', l'⟩
          · rw [hres] at hmd
            obtain ⟨rfl, n3, rfl⟩ := hmd
            have Hres := hid hres
            clear hres
            go_wp2_with fail
            have hK' := hK.out
            apply hK'
            clear hK hK'
            refine wpAny_one (i := 13) (by kernel_rfl) rfl ?_
            intro K hK
            go_simp
            have hK' := hK.out
            apply hK'
            clear hK hK'
            refine wpAny_take (i := 14) (oi := _) (v := .int .i64 (p : Nat)) rfl (by kernel_rfl) (by kernel_rfl) (by kernel_rfl) (fun _ _ _ h => h) (Or.inl ⟨by rfl, ?_⟩) ?_
            · intro w; go_simp
            show wpAny _ _ _ _ _ _ (Act.put _ (some 34) _) _
            try simp only [putAll, Act.put, List.setIfInBounds_toArray, List.set_cons_zero, List.set_cons_succ]
            refine wpAny_take (i := 15) (oi := _) (v := .int .i64 (er : Nat)) rfl (by kernel_rfl) (by kernel_rfl) (by kernel_rfl) (fun _ _ _ h => h) (Or.inl ⟨by rfl, ?_⟩) ?_
            · intro w; go_simp
            show wpAny _ _ _ _ _ _ (Act.put _ (some 35) _) _
            try simp only [putAll, Act.put, List.setIfInBounds_toArray, List.set_cons_zero, List.set_cons_succ]
            refine wpAny_take (i := 16) (oi := _) (v := .int .i64 (p : Nat)) rfl (by kernel_rfl) (by kernel_rfl) (by kernel_rfl) (fun _ _ _ h => h) (Or.inl ⟨by rfl, ?_⟩) ?_
            · intro w; go_simp
            show wpAny _ _ _ _ _ _ (Act.put _ (some 6) _) _
            try simp only [putAll, Act.put, List.setIfInBounds_toArray, List.set_cons_zero, List.set_cons_succ]
            refine wpAny_take (i := 17) (oi := _) (v := .int .i64 (er : Nat)) rfl (by kernel_rfl) (by kernel_rfl) (by kernel_rfl) (fun _ _ _ h => h) (Or.inl ⟨by rfl, ?_⟩) ?_
            · intro w; go_simp
            show wpAny _ _ _ _ _ _ (Act.put _ (some 7) _) _
            try simp only [putAll, Act.put, List.setIfInBounds_toArray, List.set_cons_zero, List.set_cons_succ]
            refine wpAny_done (by kernel_rfl) ?_ _
            have hne := sxStep_err Hres.out
            have hnb : ((er : Int) != 0) = true := by rw [bne_iff_ne]; omega
            have Hne := hid hne
            clear hne
            have hR2 : Hid (R = .error (p, er)) := by
              have h9 := hrun.out
              rw [Hm.out, sxRun, if_pos hlt, Hres.out] at h9
              exact h9.symm
            have hbel : Hid (Below B w (wx.drewN n3)) := ((((hfr.out.trans (Fr.of_below (Nat.le_trans hB hfr.out.bel.size) Hbw.out)).trans (Fr.of_below HBs.out Hb.out))).trans (Fr.drewN B wx n3)).bel
            go_wp2_with fail
            go_ret3
            rw [hR2.out]
            exact ⟨rfl, hbel.out⟩
          · rw [hres] at hmd
            obtain ⟨rfl, gl', cap', ls', x', h3, hf3, hl3, hfr⟩ := hmd
            have Hres := hid hres
            have H3 := hid h3; have Hf3 := hid hf3; have Hl3 := hid hl3; have Hfr := hid hfr
            clear hres h3 hf3 hl3 hfr
            go_wp2_with fail
            have hK' := hK.out
            apply hK'
            clear hK hK'
            refine wpAny_one (i := 13) (by kernel_rfl) rfl ?_
            intro K hK
            go_simp
            have hK' := hK.out
            apply hK'
            clear hK hK'
            refine wpAny_take (i := 14) (oi := _) (v := .int .i64 0) rfl (by kernel_rfl) (by kernel_rfl) (by kernel_rfl) (fun _ _ _ h => h) (Or.inl ⟨by rfl, ?_⟩) ?_
            · intro w; go_simp
            show wpAny _ _ _ _ _ _ (Act.put _ (some 34) _) _
            try simp only [putAll, Act.put, List.setIfInBounds_toArray, List.set_cons_zero, List.set_cons_succ]
            refine wpAny_take (i := 15) (oi := _) (v := .int .i64 0) rfl (by kernel_rfl) (by kernel_rfl) (by kernel_rfl) (fun _ _ _ h => h) (Or.inl ⟨by rfl, ?_⟩) ?_
            · intro w; go_simp
            show wpAny _ _ _ _ _ _ (Act.put _ (some 35) _) _
            try simp only [putAll, Act.put, List.setIfInBounds_toArray, List.set_cons_zero, List.set_cons_succ]
            refine wpAny_take (i := 16) (oi := _) (v := .int .i64 0) rfl (by kernel_rfl) (by kernel_rfl) (by kernel_rfl) (fun _ _ _ h => h) (Or.inl ⟨by rfl, ?_⟩) ?_
            · intro w; go_simp
            show wpAny _ _ _ _ _ _ (Act.put _ (some 6) _) _
            try simp only [putAll, Act.put, List.setIfInBounds_toArray, List.set_cons_zero, List.set_cons_succ]
            refine wpAny_take (i := 17) (oi := _) (v := .int .i64 0) rfl (by kernel_rfl) (by kernel_rfl) (by kernel_rfl) (fun _ _ _ h => h) (Or.inl ⟨by rfl, ?_⟩) ?_
            · intro w; go_simp
            show wpAny _ _ _ _ _ _ (Act.put _ (some 7) _) _
            try simp only [putAll, Act.put, List.setIfInBounds_toArray, List.set_cons_zero, List.set_cons_succ]
            refine wpAny_done (by kernel_rfl) ?_ _
            have hst := sxStep_ok Hinv.out hlt Hres.out
            have Hst := hid hst
            clear hst
            have hgx := (HS.out wx Hb.out).2.2
            have Hgx := hid hgx
            clear hgx
            have hfr3 : Hid (Fr B w w3) := (((hfr.out.trans (Fr.of_below (Nat.le_trans hB hfr.out.bel.size) Hbw.out)).trans (Fr.of_below HBs.out Hb.out))).trans Hfr.out
            go_wp2_with fail
            go_roundg m
            case measure => have := Hm.out; omega
            case rel => exact ⟨a', gl', cap', ls', x', H3.out, by rw [Hf3.out, Hl3.out]; exact Hst.out.2, by have h8 := Hst.out.1; have h9 := Hst.out.2.le; have := Hm.out; omega, by rw [Hf3.out, Hl3.out]; have h9 := hrun.out; rw [Hm.out, sxRun, if_pos hlt, Hres.out] at h9; exact h9, (Hfr.out.kept gs _ _ _ Hgx.out (by decide) (by decide) (by decide)).trans Hgx.out, hfr3.out⟩
      · refine wp_region_facts12 (w0 := w2) 12 6 [21, 22, 23, 24, 25, 26, 27, 28, 29, 30, 31, 32] [u21, u22, u23, u24, u25, u26, u27, u28, u29, u30, u31, u32]
          (fun i => match i with | 0 => sxEq (.pointer (some ⟨g, 0, none⟩)) | 1 => sxEq (.pointer (some ⟨g, 0, none⟩)) | 2 => sxEq (.pointer (some ⟨g, 0, none⟩)) | 3 => sxEq (.string s) | 4 => sxEq (.pointer (some ⟨g, 0, none⟩)) | 5 => sxEq (.pointer (some ⟨g, 0, none⟩)) | 6 => sxEq (.pointer (some ⟨g, 1, none⟩)) | 7 => sxEq (.int .i64 (a : Nat)) | 8 => sxEq (.int .u8 ((s[a]'hlt).toNat : Nat)) | 9 => sxEq (.int .i64 3) | 10 => sxEq (.pointer (some ⟨gs, 3, none⟩)) | _ => sxEq (stepF g 34)) [] (by kernel_rfl) (by kernel_rfl) (by kernel_rfl) (by kernel_rfl) (by decide) rfl (by kernel_rfl) rfl (by simp) ?he4 ?_ ?_ ?_
        case he4 => simp only [putAll, Act.put, List.setIfInBounds_toArray, List.set_cons_zero, List.set_cons_succ]
        · intro i hi; simp at hi
        · intro i o hi ho vs wx hvl hb hdep K hK
          have hvs := len12 hvl
          obtain ⟨s21, s22, s23, s24, s25, s26, s27, s28, s29, s30, s31, s32, rfl⟩ := hvs
          clear hvl
          have hk := HS.out wx hb
          obtain ⟨hk0, hk1, hk2⟩ := hk
          have hk3 : wx.cell? ⟨gs, 3, none⟩ = some (stepF g 34) := by rw [cell_of_row wx gs 3 _ _ (0, 0) hk2]; rfl
          clear hk2
          rcases i with _ | _ | _ | _ | _ | _ | _ | _ | _ | _ | _ | _ | i
          all_goals (simp only [List.getElem?_toArray, List.getElem?_cons_zero, List.getElem?_cons_succ, Option.some.injEq] at ho)
          all_goals try (subst ho)
          all_goals try simp only [putAll, Act.put, List.setIfInBounds_toArray, List.set_cons_zero, List.set_cons_succ]
          · go_simp
            have hK' := hK.out
            simp only [putAll, Act.put, List.setIfInBounds_toArray, List.set_cons_zero, List.set_cons_succ] at hK'
            exact hK' _ _ rfl (Below.refl _ _) (by simp)
          · have e0 : s21 = _ := hdep ⟨0, .data⟩ (by simp) rfl
            subst e0
            go_simp
            have hK' := hK.out
            simp only [putAll, Act.put, List.setIfInBounds_toArray, List.set_cons_zero, List.set_cons_succ] at hK'
            exact hK' _ _ rfl (Below.refl _ _) (by simp)
          · have e1 : s22 = _ := hdep ⟨1, .data⟩ (by simp) rfl
            subst e1
            go_simp
            have hK' := hK.out
            simp only [putAll, Act.put, List.setIfInBounds_toArray, List.set_cons_zero, List.set_cons_succ] at hK'
            exact hK' _ _ rfl (Below.refl _ _) (by simp)
          · have e2 : s23 = _ := hdep ⟨2, .data⟩ (by simp) rfl
            subst e2
            go_simp
            have hK' := hK.out
            simp only [putAll, Act.put, List.setIfInBounds_toArray, List.set_cons_zero, List.set_cons_succ] at hK'
            exact hK' _ _ rfl (Below.refl _ _) (by simp)
          · go_simp
            have hK' := hK.out
            simp only [putAll, Act.put, List.setIfInBounds_toArray, List.set_cons_zero, List.set_cons_succ] at hK'
            exact hK' _ _ rfl (Below.refl _ _) (by simp)
          · have e4 : s25 = _ := hdep ⟨4, .data⟩ (by simp) rfl
            subst e4
            go_simp
            have hK' := hK.out
            simp only [putAll, Act.put, List.setIfInBounds_toArray, List.set_cons_zero, List.set_cons_succ] at hK'
            exact hK' _ _ rfl (Below.refl _ _) (by simp)
          · have e5 : s26 = _ := hdep ⟨5, .data⟩ (by simp) rfl
            subst e5
            go_simp
            have hK' := hK.out
            simp only [putAll, Act.put, List.setIfInBounds_toArray, List.set_cons_zero, List.set_cons_succ] at hK'
            exact hK' _ _ rfl (Below.refl _ _) (by simp)
          · have e6 : s27 = _ := hdep ⟨6, .data⟩ (by simp) rfl
            subst e6
            go_simp
            have hK' := hK.out
            simp only [putAll, Act.put, List.setIfInBounds_toArray, List.set_cons_zero, List.set_cons_succ] at hK'
            exact hK' _ _ rfl (Below.refl _ _) (by simp)
          · have e3 : s24 = _ := hdep ⟨3, .data⟩ (by simp) rfl
            subst e3
            have e7 : s28 = _ := hdep ⟨7, .data⟩ (by simp) rfl
            subst e7
            go_simp
            have hK' := hK.out
            simp only [putAll, Act.put, List.setIfInBounds_toArray, List.set_cons_zero, List.set_cons_succ] at hK'
            exact hK' _ _ rfl (Below.refl _ _) (by simp)
          · have e8 : s29 = _ := hdep ⟨8, .data⟩ (by simp) rfl
            subst e8
            go_simp
            refine (Hso.out _).mono ?_
            rintro e wy ⟨rfl, hby⟩
            go_wp2_with fail
            have hK' := hK.out
            simp only [putAll, Act.put, List.setIfInBounds_toArray, List.set_cons_zero, List.set_cons_succ] at hK'
            exact hK' _ _ rfl hby (by simp)
          · have e9 : s30 = _ := hdep ⟨9, .data⟩ (by simp) rfl
            subst e9
            go_simp
            have hK' := hK.out
            simp only [putAll, Act.put, List.setIfInBounds_toArray, List.set_cons_zero, List.set_cons_succ] at hK'
            exact hK' _ _ rfl (Below.refl _ _) (by simp)
          · have e10 : s31 = _ := hdep ⟨10, .data⟩ (by simp) rfl
            subst e10
            go_simp
            have hK' := hK.out
            simp only [putAll, Act.put, List.setIfInBounds_toArray, List.set_cons_zero, List.set_cons_succ] at hK'
            exact hK' _ _ rfl (Below.refl _ _) (by simp)
          · omega
        · intro vs wx hvl hb hf hdist
          have hvs := len12 hvl
          obtain ⟨s21, s22, s23, s24, s25, s26, s27, s28, s29, s30, s31, s32, rfl⟩ := hvs
          have f0 : s21 = .pointer (some ⟨g, 0, none⟩) := hf 0 (by decide)
          have f11 : s32 = stepF g 34 := hf 11 (by decide)
          subst f0 f11
          clear hf hdist hvl
          have hmod := model_3 (Hrd2.out.below hb) Hinv.out hlt hs (Nat.le_trans HBs.out hb.size) Hkat.out
          have Hmod := hid hmod
          have Hb := hid hb
          clear hmod hb
          refine wpAny_one (i := 12) (by kernel_rfl) rfl ?_
          intro K hK
          try simp only [putAll, Act.put, List.setIfInBounds_toArray, List.set_cons_zero, List.set_cons_succ]
          unfold stepF
          go_simp
          refine Hmod.out.mono ?_
          rintro e w3 hmd
          rcases hres : sxStep s a (ls.map Lv.pr) x.pr with ⟨p, er⟩ | ⟨a', f', l'⟩
          · rw [hres] at hmd
            obtain ⟨rfl, n3, rfl⟩ := hmd
            have Hres := hid hres
            clear hres
            go_wp2_with fail
            have hK' := hK.out
            apply hK'
            clear hK hK'
            refine wpAny_one (i := 13) (by kernel_rfl) rfl ?_
            intro K hK
            go_simp
            have hK' := hK.out
            apply hK'
            clear hK hK'
            refine wpAny_take (i := 14) (oi := _) (v := .int .i64 (p : Nat)) rfl (by kernel_rfl) (by kernel_rfl) (by kernel_rfl) (fun _ _ _ h => h) (Or.inl ⟨by rfl, ?_⟩) ?_
            · intro w; go_simp
            show wpAny _ _ _ _ _ _ (Act.put _ (some 34) _) _
            try simp only [putAll, Act.put, List.setIfInBounds_toArray, List.set_cons_zero, List.set_cons_succ]
            refine wpAny_take (i := 15) (oi := _) (v := .int .i64 (er : Nat)) rfl (by kernel_rfl) (by kernel_rfl) (by kernel_rfl) (fun _ _ _ h => h) (Or.inl ⟨by rfl, ?_⟩) ?_
            · intro w; go_simp
            show wpAny _ _ _ _ _ _ (Act.put _ (some 35) _) _
            try simp only [putAll, Act.put, List.setIfInBounds_toArray, List.set_cons_zero, List.set_cons_succ]
            refine wpAny_take (i := 16) (oi := _) (v := .int .i64 (p : Nat)) rfl (by kernel_rfl) (by kernel_rfl) (by kernel_rfl) (fun _ _ _ h => h) (Or.inl ⟨by rfl, ?_⟩) ?_
            · intro w; go_simp
            show wpAny _ _ _ _ _ _ (Act.put _ (some 6) _) _
            try simp only [putAll, Act.put, List.setIfInBounds_toArray, List.set_cons_zero, List.set_cons_succ]
            refine wpAny_take (i := 17) (oi := _) (v := .int .i64 (er : Nat)) rfl (by kernel_rfl) (by kernel_rfl) (by kernel_rfl) (fun _ _ _ h => h) (Or.inl ⟨by rfl, ?_⟩) ?_
            · intro w; go_simp
            show wpAny _ _ _ _ _ _ (Act.put _ (some 7) _) _
            try simp only [putAll, Act.put, List.setIfInBounds_toArray, List.set_cons_zero, List.set_cons_succ]
            refine wpAny_done (by kernel_rfl) ?_ _
            have hne := sxStep_err Hres.out
            have hnb : ((er : Int) != 0) = true := by rw [bne_iff_ne]; omega
            have Hne := hid hne
            clear hne
            have hR2 : Hid (R = .error (p, er)) := by
              have h9 := hrun.out
              rw [Hm.out, sxRun, if_pos hlt, Hres.out] at h9
              exact h9.symm
            have hbel : Hid (Below B w (wx.drewN n3)) := ((((hfr.out.trans (Fr.of_below (Nat.le_trans hB hfr.out.bel.size) Hbw.out)).trans (Fr.of_below HBs.out Hb.out))).trans (Fr.drewN B wx n3)).bel
            go_wp2_with fail
            go_ret3
            rw [hR2.out]
            exact ⟨rfl, hbel.out⟩
          · rw [hres] at hmd
            obtain ⟨rfl, gl', cap', ls', x', h3, hf3, hl3, hfr⟩ := hmd
            have Hres := hid hres
            have H3 := hid h3; have Hf3 := hid hf3; have Hl3 := hid hl3; have Hfr := hid hfr
            clear hres h3 hf3 hl3 hfr
            go_wp2_with fail
            have hK' := hK.out
            apply hK'
            clear hK hK'
            refine wpAny_one (i := 13) (by kernel_rfl) rfl ?_
            intro K hK
            go_simp
            have hK' := hK.out
            apply hK'
            clear hK hK'
            refine wpAny_take (i := 14) (oi := _) (v := .int .i64 0) rfl (by kernel_rfl) (by kernel_rfl) (by kernel_rfl) (fun _ _ _ h => h) (Or.inl ⟨by rfl, ?_⟩) ?_
            · intro w; go_simp
            show wpAny _ _ _ _ _ _ (Act.put _ (some 34) _) _
            try simp only [putAll, Act.put, List.setIfInBounds_toArray, List.set_cons_zero, List.set_cons_succ]
            refine wpAny_take (i := 15) (oi := _) (v := .int .i64 0) rfl (by kernel_rfl) (by kernel_rfl) (by kernel_rfl) (fun _ _ _ h => h) (Or.inl ⟨by rfl, ?_⟩) ?_
            · intro w; go_simp
            show wpAny _ _ _ _ _ _ (Act.put _ (some 35) _) _
            try simp only [putAll, Act.put, List.setIfInBounds_toArray, List.set_cons_zero, List.set_cons_succ]
            refine wpAny_take (i := 16) (oi := _) (v := .int .i64 0) rfl (by kernel_rfl) (by kernel_rfl) (by kernel_rfl) (fun _ _ _ h => h) (Or.inl ⟨by rfl, ?_⟩) ?_
            · intro w; go_simp
            show wpAny _ _ _ _ _ _ (Act.put _ (some 6) _) _
            try simp only [putAll, Act.put, List.setIfInBounds_toArray, List.set_cons_zero, List.set_cons_succ]
            refine wpAny_take (i := 17) (oi := _) (v := .int .i64 0) rfl (by kernel_rfl) (by kernel_rfl) (by kernel_rfl) (fun _ _ _ h => h) (Or.inl ⟨by rfl, ?_⟩) ?_
            · intro w; go_simp
            show wpAny _ _ _ _ _ _ (Act.put _ (some 7) _) _
            try simp only [putAll, Act.put, List.setIfInBounds_toArray, List.set_cons_zero, List.set_cons_succ]
            refine wpAny_done (by kernel_rfl) ?_ _
            have hst := sxStep_ok Hinv.out hlt Hres.out
            have Hst := hid hst
            clear hst
            have hgx := (HS.out wx Hb.out).2.2
            have Hgx := hid hgx
            clear hgx
            have hfr3 : Hid (Fr B w w3) := (((hfr.out.trans (Fr.of_below (Nat.le_trans hB hfr.out.bel.size) Hbw.out)).trans (Fr.of_below HBs.out Hb.out))).trans Hfr.out
            go_wp2_with fail
            go_roundg m
            case measure => have := Hm.out; omega
            case rel => exact ⟨a', gl', cap', ls', x', H3.out, by rw [Hf3.out, Hl3.out]; exact Hst.out.2, by have h8 := Hst.out.1; have h9 := Hst.out.2.le; have := Hm.out; omega, by rw [Hf3.out, Hl3.out]; have h9 := hrun.out; rw [Hm.out, sxRun, if_pos hlt, Hres.out] at h9; exact h9, (Hfr.out.kept gs _ _ _ Hgx.out (by decide) (by decide) (by decide)).trans Hgx.out, hfr3.out⟩
      · refine wp_region_facts12 (w0 := w2) 12 6 [21, 22, 23, 24, 25, 26, 27, 28, 29, 30, 31, 32] [u21, u22, u23, u24, u25, u26, u27, u28, u29, u30, u31, u32]
          (fun i => match i with | 0 => sxEq (.pointer (some ⟨g, 0, none⟩)) | 1 => sxEq (.pointer (some ⟨g, 0, none⟩)) | 2 => sxEq (.pointer (some ⟨g, 0, none⟩)) | 3 => sxEq (.string s) | 4 => sxEq (.pointer (some ⟨g, 0, none⟩)) | 5 => sxEq (.pointer (some ⟨g, 0, none⟩)) | 6 => sxEq (.pointer (some ⟨g, 1, none⟩)) | 7 => sxEq (.int .i64 (a : Nat)) | 8 => sxEq (.int .u8 ((s[a]'hlt).toNat : Nat)) | 9 => sxEq (.int .i64 4) | 10 => sxEq (.pointer (some ⟨gs, 4, none⟩)) | _ => sxEq (stepF g 35)) [] (by kernel_rfl) (by kernel_rfl) (by kernel_rfl) (by kernel_rfl) (by decide) rfl (by kernel_rfl) rfl (by simp) ?he5 ?_ ?_ ?_
        case he5 => simp only [putAll, Act.put, List.setIfInBounds_toArray, List.set_cons_zero, List.set_cons_succ]
        · intro i hi; simp at hi
        · intro i o hi ho vs wx hvl hb hdep K hK
          have hvs := len12 hvl
          obtain ⟨s21, s22, s23, s24, s25, s26, s27, s28, s29, s30, s31, s32, rfl⟩ := hvs
          clear hvl
          have hk := HS.out wx hb
          obtain ⟨hk0, hk1, hk2⟩ := hk
          have hk3 : wx.cell? ⟨gs, 4, none⟩ = some (stepF g 35) := by rw [cell_of_row wx gs 4 _ _ (0, 0) hk2]; rfl
          clear hk2
          rcases i with _ | _ | _ | _ | _ | _ | _ | _ | _ | _ | _ | _ | i
          all_goals (simp only [List.getElem?_toArray, List.getElem?_cons_zero, List.getElem?_cons_succ, Option.some.injEq] at ho)
          all_goals try (subst ho)
          all_goals try simp only [putAll, Act.put, List.setIfInBounds_toArray, List.set_cons_zero, List.set_cons_succ]
          · go_simp
            have hK' := hK.out
            simp only [putAll, Act.put, List.setIfInBounds_toArray, List.set_cons_zero, List.set_cons_succ] at hK'
            exact hK' _ _ rfl (Below.refl _ _) (by simp)
          · have e0 : s21 = _ := hdep ⟨0, .data⟩ (by simp) rfl
            subst e0
            go_simp
            have hK' := hK.out
            simp only [putAll, Act.put, List.setIfInBounds_toArray, List.set_cons_zero, List.set_cons_succ] at hK'
            exact hK' _ _ rfl (Below.refl _ _) (by simp)
          · have e1 : s22 = _ := hdep ⟨1, .data⟩ (by simp) rfl
            subst e1
            go_simp
            have hK' := hK.out
            simp only [putAll, Act.put, List.setIfInBounds_toArray, List.set_cons_zero, List.set_cons_succ] at hK'
            exact hK' _ _ rfl (Below.refl _ _) (by simp)
          · have e2 : s23 = _ := hdep ⟨2, .data⟩ (by simp) rfl
            subst e2
            go_simp
            have hK' := hK.out
            simp only [putAll, Act.put, List.setIfInBounds_toArray, List.set_cons_zero, List.set_cons_succ] at hK'
            exact hK' _ _ rfl (Below.refl _ _) (by simp)
          · go_simp
            have hK' := hK.out
            simp only [putAll, Act.put, List.setIfInBounds_toArray, List.set_cons_zero, List.set_cons_succ] at hK'
            exact hK' _ _ rfl (Below.refl _ _) (by simp)
          · have e4 : s25 = _ := hdep ⟨4, .data⟩ (by simp) rfl
            subst e4
            go_simp
            have hK' := hK.out
            simp only [putAll, Act.put, List.setIfInBounds_toArray, List.set_cons_zero, List.set_cons_succ] at hK'
            exact hK' _ _ rfl (Below.refl _ _) (by simp)
          · have e5 : s26 = _ := hdep ⟨5, .data⟩ (by simp) rfl
            subst e5
            go_simp
            have hK' := hK.out
            simp only [putAll, Act.put, List.setIfInBounds_toArray, List.set_cons_zero, List.set_cons_succ] at hK'
            exact hK' _ _ rfl (Below.refl _ _) (by simp)
          · have e6 : s27 = _ := hdep ⟨6, .data⟩ (by simp) rfl
            subst e6
            go_simp
            have hK' := hK.out
            simp only [putAll, Act.put, List.setIfInBounds_toArray, List.set_cons_zero, List.set_cons_succ] at hK'
            exact hK' _ _ rfl (Below.refl _ _) (by simp)
          · have e3 : s24 = _ := hdep ⟨3, .data⟩ (by simp) rfl
            subst e3
            have e7 : s28 = _ := hdep ⟨7, .data⟩ (by simp) rfl
            subst e7
            go_simp
            have hK' := hK.out
            simp only [putAll, Act.put, List.setIfInBounds_toArray, List.set_cons_zero, List.set_cons_succ] at hK'
            exact hK' _ _ rfl (Below.refl _ _) (by simp)
          · have e8 : s29 = _ := hdep ⟨8, .data⟩ (by simp) rfl
            subst e8
            go_simp
            refine (Hso.out _).mono ?_
            rintro e wy ⟨rfl, hby⟩
            go_wp2_with fail
            have hK' := hK.out
            simp only [putAll, Act.put, List.setIfInBounds_toArray, List.set_cons_zero, List.set_cons_succ] at hK'
            exact hK' _ _ rfl hby (by simp)
          · have e9 : s30 = _ := hdep ⟨9, .data⟩ (by simp) rfl
            subst e9
            go_simp
            have hK' := hK.out
            simp only [putAll, Act.put, List.setIfInBounds_toArray, List.set_cons_zero, List.set_cons_succ] at hK'
            exact hK' _ _ rfl (Below.refl _ _) (by simp)
          · have e10 : s31 = _ := hdep ⟨10, .data⟩ (by simp) rfl
            subst e10
            go_simp
            have hK' := hK.out
            simp only [putAll, Act.put, List.setIfInBounds_toArray, List.set_cons_zero, List.set_cons_succ] at hK'
            exact hK' _ _ rfl (Below.refl _ _) (by simp)
          · omega
        · intro vs wx hvl hb hf hdist
          have hvs := len12 hvl
          obtain ⟨s21, s22, s23, s24, s25, s26, s27, s28, s29, s30, s31, s32, rfl⟩ := hvs
          have f0 : s21 = .pointer (some ⟨g, 0, none⟩) := hf 0 (by decide)
          have f11 : s32 = stepF g 35 := hf 11 (by decide)
          subst f0 f11
          clear hf hdist hvl
          have hmod := model_4 (Hrd2.out.below hb) Hinv.out hlt hs (Nat.le_trans HBs.out hb.size) Hkat.out
          have Hmod := hid hmod
          have Hb := hid hb
          clear hmod hb
          refine wpAny_one (i := 12) (by kernel_rfl) rfl ?_
          intro K hK
          try simp only [putAll, Act.put, List.setIfInBounds_toArray, List.set_cons_zero, List.set_cons_succ]
          unfold stepF
          go_simp
          refine Hmod.out.mono ?_
          rintro e w3 hmd
          rcases hres : sxStep s a (ls.map Lv.pr) x.pr with ⟨p, er⟩ | ⟨a', f', l'⟩
          · rw [hres] at hmd
            obtain ⟨rfl, n3, rfl⟩ := hmd
            have Hres := hid hres
            clear hres
            go_wp2_with fail
            have hK' := hK.out
            apply hK'
            clear hK hK'
            refine wpAny_one (i := 13) (by kernel_rfl) rfl ?_
            intro K hK
            go_simp
            have hK' := hK.out
            apply hK'
            clear hK hK'
            refine wpAny_take (i := 14) (oi := _) (v := .int .i64 (p : Nat)) rfl (by kernel_rfl) (by kernel_rfl) (by kernel_rfl) (fun _ _ _ h => h) (Or.inl ⟨by rfl, ?_⟩) ?_
            · intro w; go_simp
            show wpAny _ _ _ _ _ _ (Act.put _ (some 34) _) _
            try simp only [putAll, Act.put, List.setIfInBounds_toArray, List.set_cons_zero, List.set_cons_succ]
            refine wpAny_take (i := 15) (oi := _) (v := .int .i64 (er : Nat)) rfl (by kernel_rfl) (by kernel_rfl) (by kernel_rfl) (fun _ _ _ h => h) (Or.inl ⟨by rfl, ?_⟩) ?_
            · intro w; go_simp
            show wpAny _ _ _ _ _ _ (Act.put _ (some 35) _) _
            try simp only [putAll, Act.put, List.setIfInBounds_toArray, List.set_cons_zero, List.set_cons_succ]
            refine wpAny_take (i := 16) (oi := _) (v := .int .i64 (p : Nat)) rfl (by kernel_rfl) (by kernel_rfl) (by kernel_rfl) (fun _ _ _ h => h) (Or.inl ⟨by rfl, ?_⟩) ?_
            · intro w; go_simp
            show wpAny _ _ _ _ _ _ (Act.put _ (some 6) _) _
            try simp only [putAll, Act.put, List.setIfInBounds_toArray, List.set_cons_zero, List.set_cons_succ]
            refine wpAny_take (i := 17) (oi := _) (v := .int .i64 (er : Nat)) rfl (by kernel_rfl) (by kernel_rfl) (by kernel_rfl) (fun _ _ _ h => h) (Or.inl ⟨by rfl, ?_⟩) ?_
            · intro w; go_simp
            show wpAny _ _ _ _ _ _ (Act.put _ (some 7) _) _
            try simp only [putAll, Act.put, List.setIfInBounds_toArray, List.set_cons_zero, List.set_cons_succ]
            refine wpAny_done (by kernel_rfl) ?_ _
            have hne := sxStep_err Hres.out
            have hnb : ((er : Int) != 0) = true := by rw [bne_iff_ne]; omega
            have Hne := hid hne
            clear hne
            have hR2 : Hid (R = .error (p, er)) := by
              have h9 := hrun.out
              rw [Hm.out, sxRun, if_pos hlt, Hres.out] at h9
              exact h9.symm
            have hbel : Hid (Below B w (wx.drewN n3)) := ((((hfr.out.trans (Fr.of_below (Nat.le_trans hB hfr.out.bel.size) Hbw.out)).trans (Fr.of_below HBs.out Hb.out))).trans (Fr.drewN B wx n3)).bel
            go_wp2_with fail
            go_ret3
            rw [hR2.out]
            exact ⟨rfl, hbel.out⟩
          · rw [hres] at hmd
            obtain ⟨rfl, gl', cap', ls', x', h3, hf3, hl3, hfr⟩ := hmd
            have Hres := hid hres
            have H3 := hid h3; have Hf3 := hid hf3; have Hl3 := hid hl3; have Hfr := hid hfr
            clear hres h3 hf3 hl3 hfr
            go_wp2_with fail
            have hK' := hK.out
            apply hK'
            clear hK hK'
            refine wpAny_one (i := 13) (by kernel_rfl) rfl ?_
            intro K hK
            go_simp
            have hK' := hK.out
            apply hK'
            clear hK hK'
            refine wpAny_take (i := 14) (oi := _) (v := .int .i64 0) rfl (by kernel_rfl) (by kernel_rfl) (by kernel_rfl) (fun _ _ _ h => h) (Or.inl ⟨by rfl, ?_⟩) ?_
            · intro w; go_simp
            show wpAny _ _ _ _ _ _ (Act.put _ (some 34) _) _
            try simp only [putAll, Act.put, List.setIfInBounds_toArray, List.set_cons_zero, List.set_cons_succ]
            refine wpAny_take (i := 15) (oi := _) (v := .int .i64 0) rfl (by kernel_rfl) (by kernel_rfl) (by kernel_rfl) (fun _ _ _ h => h) (Or.inl ⟨by rfl, ?_⟩) ?_
            · intro w; go_simp
            show wpAny _ _ _ _ _ _ (Act.put _ (some 35) _) _
            try simp only [putAll, Act.put, List.setIfInBounds_toArray, List.set_cons_zero, List.set_cons_succ]
            refine wpAny_take (i := 16) (oi := _) (v := .int .i64 0) rfl (by kernel_rfl) (by kernel_rfl) (by kernel_rfl) (fun _ _ _ h => h) (Or.inl ⟨by rfl, ?_⟩) ?_
            · intro w; go_simp
            show wpAny _ _ _ _ _ _ (Act.put _ (some 6) _) _
            try simp only [putAll, Act.put, List.setIfInBounds_toArray, List.set_cons_zero, List.set_cons_succ]
            refine wpAny_take (i := 17) (oi := _) (v := .int .i64 0) rfl (by kernel_rfl) (by kernel_rfl) (by kernel_rfl) (fun _ _ _ h => h) (Or.inl ⟨by rfl, ?_⟩) ?_
            · intro w; go_simp
            show wpAny _ _ _ _ _ _ (Act.put _ (some 7) _) _
            try simp only [putAll, Act.put, List.setIfInBounds_toArray, List.set_cons_zero, List.set_cons_succ]
            refine wpAny_done (by kernel_rfl) ?_ _
            have hst := sxStep_ok Hinv.out hlt Hres.out
            have Hst := hid hst
            clear hst
            have hgx := (HS.out wx Hb.out).2.2
            have Hgx := hid hgx
            clear hgx
            have hfr3 : Hid (Fr B w w3) := (((hfr.out.trans (Fr.of_below (Nat.le_trans hB hfr.out.bel.size) Hbw.out)).trans (Fr.of_below HBs.out Hb.out))).trans Hfr.out
            go_wp2_with fail
            go_roundg m
            case measure => have := Hm.out; omega
            case rel => exact ⟨a', gl', cap', ls', x', H3.out, by rw [Hf3.out, Hl3.out]; exact Hst.out.2, by have h8 := Hst.out.1; have h9 := Hst.out.2.le; have := Hm.out; omega, by rw [Hf3.out, Hl3.out]; have h9 := hrun.out; rw [Hm.out, sxRun, if_pos hlt, Hres.out] at h9; exact h9, (Hfr.out.kept gs _ _ _ Hgx.out (by decide) (by decide) (by decide)).trans Hgx.out, hfr3.out⟩
      · refine wp_region_facts12 (w0 := w2) 12 6 [21, 22, 23, 24, 25, 26, 27, 28, 29, 30, 31, 32] [u21, u22, u23, u24, u25, u26, u27, u28, u29, u30, u31, u32]
          (fun i => match i with | 0 => sxEq (.pointer (some ⟨g, 0, none⟩)) | 1 => sxEq (.pointer (some ⟨g, 0, none⟩)) | 2 => sxEq (.pointer (some ⟨g, 0, none⟩)) | 3 => sxEq (.string s) | 4 => sxEq (.pointer (some ⟨g, 0, none⟩)) | 5 => sxEq (.pointer (some ⟨g, 0, none⟩)) | 6 => sxEq (.pointer (some ⟨g, 1, none⟩)) | 7 => sxEq (.int .i64 (a : Nat)) | 8 => sxEq (.int .u8 ((s[a]'hlt).toNat : Nat)) | 9 => sxEq (.int .i64 5) | 10 => sxEq (.pointer (some ⟨gs, 5, none⟩)) | _ => sxEq (stepF g 36)) [] (by kernel_rfl) (by kernel_rfl) (by kernel_rfl) (by kernel_rfl) (by decide) rfl (by kernel_rfl) rfl (by simp) ?he6 ?_ ?_ ?_
        case he6 => simp only [putAll, Act.put, List.setIfInBounds_toArray, List.set_cons_zero, List.set_cons_succ]
        · intro i hi; simp at hi
        · intro i o hi ho vs wx hvl hb hdep K hK
          have hvs := len12 hvl
          obtain ⟨s21, s22, s23, s24, s25, s26, s27, s28, s29, s30, s31, s32, rfl⟩ := hvs
          clear hvl
          have hk := HS.out wx hb
          obtain ⟨hk0, hk1, hk2⟩ := hk
          have hk3 : wx.cell? ⟨gs, 5, none⟩ = some (stepF g 36) := by rw [cell_of_row wx gs 5 _ _ (0, 0) hk2]; rfl
          clear hk2
          rcases i with _ | _ | _ | _ | _ | _ | _ | _ | _ | _ | _ | _ | i
          all_goals (simp only [List.getElem?_toArray, List.getElem?_cons_zero, List.getElem?_cons_succ, Option.some.injEq] at ho)
          all_goals try (subst ho)
          all_goals try simp only [putAll, Act.put, List.setIfInBounds_toArray, List.set_cons_zero, List.set_cons_succ]
          · go_simp
            have hK' := hK.out
            simp only [putAll, Act.put, List.setIfInBounds_toArray, List.set_cons_zero, List.set_cons_succ] at hK'
            exact hK' _ _ rfl (Below.refl _ _) (by simp)
          · have e0 : s21 = _ := hdep ⟨0, .data⟩ (by simp) rfl
            subst e0
            go_simp
            have hK' := hK.out
            simp only [putAll, Act.put, List.setIfInBounds_toArray, List.set_cons_zero, List.set_cons_succ] at hK'
            exact hK' _ _ rfl (Below.refl _ _) (by simp)
          · have e1 : s22 = _ := hdep ⟨1, .data⟩ (by simp) rfl
            subst e1
            go_simp
            have hK' := hK.out
            simp only [putAll, Act.put, List.setIfInBounds_toArray, List.set_cons_zero, List.set_cons_succ] at hK'
            exact hK' _ _ rfl (Below.refl _ _) (by simp)
          · have e2 : s23 = _ := hdep ⟨2, .data⟩ (by simp) rfl
            subst e2
            go_simp
            have hK' := hK.out
            simp only [putAll, Act.put, List.setIfInBounds_toArray, List.set_cons_zero, List.set_cons_succ] at hK'
            exact hK' _ _ rfl (Below.refl _ _) (by simp)
          · go_simp
            have hK' := hK.out
            simp only [putAll, Act.put, List.setIfInBounds_toArray, List.set_cons_zero, List.set_cons_succ] at hK'
            exact hK' _ _ rfl (Below.refl _ _) (by simp)
          · have e4 : s25 = _ := hdep ⟨4, .data⟩ (by simp) rfl
            subst e4
            go_simp
            have hK' := hK.out
            simp only [putAll, Act.put, List.setIfInBounds_toArray, List.set_cons_zero, List.set_cons_succ] at hK'
            exact hK' _ _ rfl (Below.refl _ _) (by simp)
          · have e5 : s26 = _ := hdep ⟨5, .data⟩ (by simp) rfl
            subst e5
            go_simp
            have hK' := hK.out
            simp only [putAll, Act.put, List.setIfInBounds_toArray, List.set_cons_zero, List.set_cons_succ] at hK'
            exact hK' _ _ rfl (Below.refl _ _) (by simp)
          · have e6 : s27 = _ := hdep ⟨6, .data⟩ (by simp) rfl
            subst e6
            go_simp
            have hK' := hK.out
            simp only [putAll, Act.put, List.setIfInBounds_toArray, List.set_cons_zero, List.set_cons_succ] at hK'
            exact hK' _ _ rfl (Below.refl _ _) (by simp)
          · have e3 : s24 = _ := hdep ⟨3, .data⟩ (by simp) rfl
            subst e3
            have e7 : s28 = _ := hdep ⟨7, .data⟩ (by simp) rfl
            subst e7
            go_simp
            have hK' := hK.out
            simp only [putAll, Act.put, List.setIfInBounds_toArray, List.set_cons_zero, List.set_cons_succ] at hK'
            exact hK' _ _ rfl (Below.refl _ _) (by simp)
          · have e8 : s29 = _ := hdep ⟨8, .data⟩ (by simp) rfl
            subst e8
            go_simp
            refine (Hso.out _).mono ?_
            rintro e wy ⟨rfl, hby⟩
            go_wp2_with fail
            have hK' := hK.out
            simp only [putAll, Act.put, List.setIfInBounds_toArray, List.set_cons_zero, List.set_cons_succ] at hK'
            exact hK' _ _ rfl hby (by simp)
          · have e9 : s30 = _ := hdep ⟨9, .data⟩ (by simp) rfl
            subst e9
            go_simp
            have hK' := hK.out
            simp only [putAll, Act.put, List.setIfInBounds_toArray, List.set_cons_zero, List.set_cons_succ] at hK'
            exact hK' _ _ rfl (Below.refl _ _) (by simp)
          · have e10 : s31 = _ := hdep ⟨10, .data⟩ (by simp) rfl
            subst e10
            go_simp
            have hK' := hK.out
            simp only [putAll, Act.put, List.setIfInBounds_toArray, List.set_cons_zero, List.set_cons_succ] at hK'
            exact hK' _ _ rfl (Below.refl _ _) (by simp)
          · omega
        · intro vs wx hvl hb hf hdist
          have hvs := len12 hvl
          obtain ⟨s21, s22, s23, s24, s25, s26, s27, s28, s29, s30, s31, s32, rfl⟩ := hvs
          have f0 : s21 = .pointer (some ⟨g, 0, none⟩) := hf 0 (by decide)
          have f11 : s32 = stepF g 36 := hf 11 (by decide)
          subst f0 f11
          clear hf hdist hvl
          have hmod := model_5 (Hrd2.out.below hb) Hinv.out hlt hs (Nat.le_trans HBs.out hb.size) Hkat.out
          have Hmod := hid hmod
          have Hb := hid hb
          clear hmod hb
          refine wpAny_one (i := 12) (by kernel_rfl) rfl ?_
          intro K hK
          try simp only [putAll, Act.put, List.setIfInBounds_toArray, List.set_cons_zero, List.set_cons_succ]
          unfold stepF
          go_simp
          refine Hmod.out.mono ?_
          rintro e w3 hmd
          rcases hres : sxStep s a (ls.map Lv.pr) x.pr with ⟨p, er⟩ | ⟨a', f', l'⟩
          · rw [hres] at hmd
            obtain ⟨rfl, n3, rfl⟩ := hmd
            have Hres := hid hres
            clear hres
            go_wp2_with fail
            have hK' := hK.out
            apply hK'
            clear hK hK'
            refine wpAny_one (i := 13) (by kernel_rfl) rfl ?_
            intro K hK
            go_simp
            have hK' := hK.out
            apply hK'
            clear hK hK'
            refine wpAny_take (i := 14) (oi := _) (v := .int .i64 (p : Nat)) rfl (by kernel_rfl) (by kernel_rfl) (by kernel_rfl) (fun _ _ _ h => h) (Or.inl ⟨by rfl, ?_⟩) ?_
            · intro w; go_simp
            show wpAny _ _ _ _ _ _ (Act.put _ (some 34) _) _
            try simp only [putAll, Act.put, List.setIfInBounds_toArray, List.set_cons_zero, List.set_cons_succ]
            refine wpAny_take (i := 15) (oi := _) (v := .int .i64 (er : Nat)) rfl (by kernel_rfl) (by kernel_rfl) (by kernel_rfl) (fun _ _ _ h => h) (Or.inl ⟨by rfl, ?_⟩) ?_
            · intro w; go_simp
            show wpAny _ _ _ _ _ _ (Act.put _ (some 35) _) _
            try simp only [putAll, Act.put, List.setIfInBounds_toArray, List.set_cons_zero, List.set_cons_succ]
            refine wpAny_take (i := 16) (oi := _) (v := .int .i64 (p : Nat)) rfl (by kernel_rfl) (by kernel_rfl) (by kernel_rfl) (fun _ _ _ h => h) (Or.inl ⟨by rfl, ?_⟩) ?_
            · intro w; go_simp
            show wpAny _ _ _ _ _ _ (Act.put _ (some 6) _) _
            try simp only [putAll, Act.put, List.setIfInBounds_toArray, List.set_cons_zero, List.set_cons_succ]
            refine wpAny_take (i := 17) (oi := _) (v := .int .i64 (er : Nat)) rfl (by kernel_rfl) (by kernel_rfl) (by kernel_rfl) (fun _ _ _ h => h) (Or.inl ⟨by rfl, ?_⟩) ?_
            · intro w; go_simp
            show wpAny _ _ _ _ _ _ (Act.put _ (some 7) _) _
            try simp only [putAll, Act.put, List.setIfInBounds_toArray, List.set_cons_zero, List.set_cons_succ]
            refine wpAny_done (by kernel_rfl) ?_ _
            have hne := sxStep_err Hres.out
            have hnb : ((er : Int) != 0) = true := by rw [bne_iff_ne]; omega
            have Hne := hid hne
            clear hne
            have hR2 : Hid (R = .error (p, er)) := by
              have h9 := hrun.out
              rw [Hm.out, sxRun, if_pos hlt, Hres.out] at h9
              exact h9.symm
            have hbel : Hid (Below B w (wx.drewN n3)) := ((((hfr.out.trans (Fr.of_below (Nat.le_trans hB hfr.out.bel.size) Hbw.out)).trans (Fr.of_below HBs.out Hb.out))).trans (Fr.drewN B wx n3)).bel
            go_wp2_with fail
            go_ret3
            rw [hR2.out]
            exact ⟨rfl, hbel.out⟩
          · rw [hres] at hmd
            obtain ⟨rfl, gl', cap', ls', x', h3, hf3, hl3, hfr⟩ := hmd
            have Hres := hid hres
            have H3 := hid h3; have Hf3 := hid hf3; have Hl3 := hid hl3; have Hfr := hid hfr
            clear hres h3 hf3 hl3 hfr
            go_wp2_with fail
            have hK' := hK.out
            apply hK'
            clear hK hK'
            refine wpAny_one (i := 13) (by kernel_rfl) rfl ?_
            intro K hK
            go_simp
            have hK' := hK.out
            apply hK'
            clear hK hK'
            refine wpAny_take (i := 14) (oi := _) (v := .int .i64 0) rfl (by kernel_rfl) (by kernel_rfl) (by kernel_rfl) (fun _ _ _ h => h) (Or.inl ⟨by rfl, ?_⟩) ?_
            · intro w; go_simp
            show wpAny _ _ _ _ _ _ (Act.put _ (some 34) _) _
            try simp only [putAll, Act.put, List.setIfInBounds_toArray, List.set_cons_zero, List.set_cons_succ]
            refine wpAny_take (i := 15) (oi := _) (v := .int .i64 0) rfl (by kernel_rfl) (by kernel_rfl) (by kernel_rfl) (fun _ _ _ h => h) (Or.inl ⟨by rfl, ?_⟩) ?_
            · intro w; go_simp
            show wpAny _ _ _ _ _ _ (Act.put _ (some 35) _) _
            try simp only [putAll, Act.put, List.setIfInBounds_toArray, List.set_cons_zero, List.set_cons_succ]
            refine wpAny_take (i := 16) (oi := _) (v := .int .i64 0) rfl (by kernel_rfl) (by kernel_rfl) (by kernel_rfl) (fun _ _ _ h => h) (Or.inl ⟨by rfl, ?_⟩) ?_
            · intro w; go_simp
            show wpAny _ _ _ _ _ _ (Act.put _ (some 6) _) _
            try simp only [putAll, Act.put, List.setIfInBounds_toArray, List.set_cons_zero, List.set_cons_succ]
            refine wpAny_take (i := 17) (oi := _) (v := .int .i64 0) rfl (by kernel_rfl) (by kernel_rfl) (by kernel_rfl) (fun _ _ _ h => h) (Or.inl ⟨by rfl, ?_⟩) ?_
            · intro w; go_simp
            show wpAny _ _ _ _ _ _ (Act.put _ (some 7) _) _
            try simp only [putAll, Act.put, List.setIfInBounds_toArray, List.set_cons_zero, List.set_cons_succ]
            refine wpAny_done (by kernel_rfl) ?_ _
            have hst := sxStep_ok Hinv.out hlt Hres.out
            have Hst := hid hst
            clear hst
            have hgx := (HS.out wx Hb.out).2.2
            have Hgx := hid hgx
            clear hgx
            have hfr3 : Hid (Fr B w w3) := (((hfr.out.trans (Fr.of_below (Nat.le_trans hB hfr.out.bel.size) Hbw.out)).trans (Fr.of_below HBs.out Hb.out))).trans Hfr.out
            go_wp2_with fail
            go_roundg m
            case measure => have := Hm.out; omega
            case rel => exact ⟨a', gl', cap', ls', x', H3.out, by rw [Hf3.out, Hl3.out]; exact Hst.out.2, by have h8 := Hst.out.1; have h9 := Hst.out.2.le; have := Hm.out; omega, by rw [Hf3.out, Hl3.out]; have h9 := hrun.out; rw [Hm.out, sxRun, if_pos hlt, Hres.out] at h9; exact h9, (Hfr.out.kept gs _ _ _ Hgx.out (by decide) (by decide) (by decide)).trans Hgx.out, hfr3.out⟩
      · refine wp_region_facts12 (w0 := w2) 12 6 [21, 22, 23, 24, 25, 26, 27, 28, 29, 30, 31, 32] [u21, u22, u23, u24, u25, u26, u27, u28, u29, u30, u31, u32]
          (fun i => match i with | 0 => sxEq (.pointer (some ⟨g, 0, none⟩)) | 1 => sxEq (.pointer (some ⟨g, 0, none⟩)) | 2 => sxEq (.pointer (some ⟨g, 0, none⟩)) | 3 => sxEq (.string s) | 4 => sxEq (.pointer (some ⟨g, 0, none⟩)) | 5 => sxEq (.pointer (some ⟨g, 0, none⟩)) | 6 => sxEq (.pointer (some ⟨g, 1, none⟩)) | 7 => sxEq (.int .i64 (a : Nat)) | 8 => sxEq (.int .u8 ((s[a]'hlt).toNat : Nat)) | 9 => sxEq (.int .i64 6) | 10 => sxEq (.pointer (some ⟨gs, 6, none⟩)) | _ => sxEq (stepF g 37)) [] (by kernel_rfl) (by kernel_rfl) (by kernel_rfl) (by kernel_rfl) (by decide) rfl (by kernel_rfl) rfl (by simp) ?he7 ?_ ?_ ?_
        case he7 => simp only [putAll, Act.put, List.setIfInBounds_toArray, List.set_cons_zero, List.set_cons_succ]
        · intro i hi; simp at hi
        · intro i o hi ho vs wx hvl hb hdep K hK
          have hvs := len12 hvl
          obtain ⟨s21, s22, s23, s24, s25, s26, s27, s28, s29, s30, s31, s32, rfl⟩ := hvs
          clear hvl
          have hk := HS.out wx hb
          obtain ⟨hk0, hk1, hk2⟩ := hk
          have hk3 : wx.cell? ⟨gs, 6, none⟩ = some (stepF g 37) := by rw [cell_of_row wx gs 6 _ _ (0, 0) hk2]; rfl
          clear hk2
          rcases i with _ | _ | _ | _ | _ | _ | _ | _ | _ | _ | _ | _ | i
          all_goals (simp only [List.getElem?_toArray, List.getElem?_cons_zero, List.getElem?_cons_succ, Option.some.injEq] at ho)
          all_goals try (subst ho)
          all_goals try simp only [putAll, Act.put, List.setIfInBounds_toArray, List.set_cons_zero, List.set_cons_succ]
          · go_simp
            have hK' := hK.out
            simp only [putAll, Act.put, List.setIfInBounds_toArray, List.set_cons_zero, List.set_cons_succ] at hK'
            exact hK' _ _ rfl (Below.refl _ _) (by simp)
          · have e0 : s21 = _ := hdep ⟨0, .data⟩ (by simp) rfl
            subst e0
            go_simp
            have hK' := hK.out
            simp only [putAll, Act.put, List.setIfInBounds_toArray, List.set_cons_zero, List.set_cons_succ] at hK'
            exact hK' _ _ rfl (Below.refl _ _) (by simp)
          · have e1 : s22 = _ := hdep ⟨1, .data⟩ (by simp) rfl
            subst e1
            go_simp
            have hK' := hK.out
            simp only [putAll, Act.put, List.setIfInBounds_toArray, List.set_cons_zero, List.set_cons_succ] at hK'
            exact hK' _ _ rfl (Below.refl _ _) (by simp)
          · have e2 : s23 = _ := hdep ⟨2, .data⟩ (by simp) rfl
            subst e2
            go_simp
            have hK' := hK.out
            simp only [putAll, Act.put, List.setIfInBounds_toArray, List.set_cons_zero, List.set_cons_succ] at hK'
            exact hK' _ _ rfl (Below.refl _ _) (by simp)
          · go_simp
            have hK' := hK.out
            simp only [putAll, Act.put, List.setIfInBounds_toArray, List.set_cons_zero, List.set_cons_succ] at hK'
            exact hK' _ _ rfl (Below.refl _ _) (by simp)
          · have e4 : s25 = _ := hdep ⟨4, .data⟩ (by simp) rfl
            subst e4
            go_simp
            have hK' := hK.out
            simp only [putAll, Act.put, List.setIfInBounds_toArray, List.set_cons_zero, List.set_cons_succ] at hK'
            exact hK' _ _ rfl (Below.refl _ _) (by simp)
          · have e5 : s26 = _ := hdep ⟨5, .data⟩ (by simp) rfl
            subst e5
            go_simp
            have hK' := hK.out
            simp only [putAll, Act.put, List.setIfInBounds_toArray, List.set_cons_zero, List.set_cons_succ] at hK'
            exact hK' _ _ rfl (Below.refl _ _) (by simp)
          · have e6 : s27 = _ := hdep ⟨6, .data⟩ (by simp) rfl
            subst e6
            go_simp
            have hK' := hK.out
            simp only [putAll, Act.put, List.setIfInBounds_toArray, List.set_cons_zero, List.set_cons_succ] at hK'
            exact hK' _ _ rfl (Below.refl _ _) (by simp)
          · have e3 : s24 = _ := hdep ⟨3, .data⟩ (by simp) rfl
            subst e3
            have e7 : s28 = _ := hdep ⟨7, .data⟩ (by simp) rfl
            subst e7
            go_simp
            have hK' := hK.out
            simp only [putAll, Act.put, List.setIfInBounds_toArray, List.set_cons_zero, List.set_cons_succ] at hK'
            exact hK' _ _ rfl (Below.refl _ _) (by simp)
          · have e8 : s29 = _ := hdep ⟨8, .data⟩ (by simp) rfl
            subst e8
            go_simp
            refine (Hso.out _).mono ?_
            rintro e wy ⟨rfl, hby⟩
            go_wp2_with fail
            have hK' := hK.out
            simp only [putAll, Act.put, List.setIfInBounds_toArray, List.set_cons_zero, List.set_cons_succ] at hK'
            exact hK' _ _ rfl hby (by simp)
          · have e9 : s30 = _ := hdep ⟨9, .data⟩ (by simp) rfl
            subst e9
            go_simp
            have hK' := hK.out
            simp only [putAll, Act.put, List.setIfInBounds_toArray, List.set_cons_zero, List.set_cons_succ] at hK'
            exact hK' _ _ rfl (Below.refl _ _) (by simp)
          · have e10 : s31 = _ := hdep ⟨10, .data⟩ (by simp) rfl
            subst e10
            go_simp
            have hK' := hK.out
            simp only [putAll, Act.put, List.setIfInBounds_toArray, List.set_cons_zero, List.set_cons_succ] at hK'
            exact hK' _ _ rfl (Below.refl _ _) (by simp)
          · omega
        · intro vs wx hvl hb hf hdist
          have hvs := len12 hvl
          obtain ⟨s21, s22, s23, s24, s25, s26, s27, s28, s29, s30, s31, s32, rfl⟩ := hvs
          have f0 : s21 = .pointer (some ⟨g, 0, none⟩) := hf 0 (by decide)
          have f11 : s32 = stepF g 37 := hf 11 (by decide)
          subst f0 f11
          clear hf hdist hvl
          have hmod := model_6 (Hrd2.out.below hb) Hinv.out hlt hs (Nat.le_trans HBs.out hb.size) Hkat.out
          have Hmod := hid hmod
          have Hb := hid hb
          clear hmod hb
          refine wpAny_one (i := 12) (by kernel_rfl) rfl ?_
          intro K hK
          try simp only [putAll, Act.put, List.setIfInBounds_toArray, List.set_cons_zero, List.set_cons_succ]
          unfold stepF
          go_simp
          refine Hmod.out.mono ?_
          rintro e w3 hmd
          rcases hres : sxStep s a (ls.map Lv.pr) x.pr with ⟨p, er⟩ | ⟨a', f', l'⟩
          · rw [hres] at hmd
            obtain ⟨rfl, n3, rfl⟩ := hmd
            have Hres := hid hres
            clear hres
            go_wp2_with fail
            have hK' := hK.out
            apply hK'
            clear hK hK'
            refine wpAny_one (i := 13) (by kernel_rfl) rfl ?_
            intro K hK
            go_simp
            have hK' := hK.out
            apply hK'
            clear hK hK'
            refine wpAny_take (i := 14) (oi := _) (v := .int .i64 (p : Nat)) rfl (by kernel_rfl) (by kernel_rfl) (by kernel_rfl) (fun _ _ _ h => h) (Or.inl ⟨by rfl, ?_⟩) ?_
            · intro w; go_simp
            show wpAny _ _ _ _ _ _ (Act.put _ (some 34) _) _
            try simp only [putAll, Act.put, List.setIfInBounds_toArray, List.set_cons_zero, List.set_cons_succ]
            refine wpAny_take (i := 15) (oi := _) (v := .int .i64 (er : Nat)) rfl (by kernel_rfl) (by kernel_rfl) (by kernel_rfl) (fun _ _ _ h => h) (Or.inl ⟨by rfl, ?_⟩) ?_
            · intro w; go_simp
            show wpAny _ _ _ _ _ _ (Act.put _ (some 35) _) _
            try simp only [putAll, Act.put, List.setIfInBounds_toArray, List.set_cons_zero, List.set_cons_succ]
            refine wpAny_take (i := 16) (oi := _) (v := .int .i64 (p : Nat)) rfl (by kernel_rfl) (by kernel_rfl) (by kernel_rfl) (fun _ _ _ h => h) (Or.inl ⟨by rfl, ?_⟩) ?_
            · intro w; go_simp
            show wpAny _ _ _ _ _ _ (Act.put _ (some 6) _) _
            try simp only [putAll, Act.put, List.setIfInBounds_toArray, List.set_cons_zero, List.set_cons_succ]
            refine wpAny_take (i := 17) (oi := _) (v := .int .i64 (er : Nat)) rfl (by kernel_rfl) (by kernel_rfl) (by kernel_rfl) (fun _ _ _ h => h) (Or.inl ⟨by rfl, ?_⟩) ?_
            · intro w; go_simp
            show wpAny _ _ _ _ _ _ (Act.put _ (some 7) _) _
            try simp only [putAll, Act.put, List.setIfInBounds_toArray, List.set_cons_zero, List.set_cons_succ]
            refine wpAny_done (by kernel_rfl) ?_ _
            have hne := sxStep_err Hres.out
            have hnb : ((er : Int) != 0) = true := by rw [bne_iff_ne]; omega
            have Hne := hid hne
            clear hne
            have hR2 : Hid (R = .error (p, er)) := by
              have h9 := hrun.out
              rw [Hm.out, sxRun, if_pos hlt, Hres.out] at h9
              exact h9.symm
            have hbel : Hid (Below B w (wx.drewN n3)) := ((((hfr.out.trans (Fr.of_below (Nat.le_trans hB hfr.out.bel.size) Hbw.out)).trans (Fr.of_below HBs.out Hb.out))).trans (Fr.drewN B wx n3)).bel
            go_wp2_with fail
            go_ret3
            rw [hR2.out]
            exact ⟨rfl, hbel.out⟩
          · rw [hres] at hmd
            obtain ⟨rfl, gl', cap', ls', x', h3, hf3, hl3, hfr⟩ := hmd
            have Hres := hid hres
            have H3 := hid h3; have Hf3 := hid hf3; have Hl3 := hid hl3; have Hfr := hid hfr
            clear hres h3 hf3 hl3 hfr
            go_wp2_with fail
            have hK' := hK.out
            apply hK'
            clear hK hK'
            refine wpAny_one (i := 13) (by kernel_rfl) rfl ?_
            intro K hK
            go_simp
            have hK' := hK.out
            apply hK'
            clear hK hK'
            refine wpAny_take (i := 14) (oi := _) (v := .int .i64 0) rfl (by kernel_rfl) (by kernel_rfl) (by kernel_rfl) (fun _ _ _ h => h) (Or.inl ⟨by rfl, ?_⟩) ?_
            · intro w; go_simp
            show wpAny _ _ _ _ _ _ (Act.put _ (some 34) _) _
            try simp only [putAll, Act.put, List.setIfInBounds_toArray, List.set_cons_zero, List.set_cons_succ]
            refine wpAny_take (i := 15) (oi := _) (v := .int .i64 0) rfl (by kernel_rfl) (by kernel_rfl) (by kernel_rfl) (fun _ _ _ h => h) (Or.inl ⟨by rfl, ?_⟩) ?_
            · intro w; go_simp
            show wpAny _ _ _ _ _ _ (Act.put _ (some 35) _) _
            try simp only [putAll, Act.put, List.setIfInBounds_toArray, List.set_cons_zero, List.set_cons_succ]
            refine wpAny_take (i := 16) (oi := _) (v := .int .i64 0) rfl (by kernel_rfl) (by kernel_rfl) (by kernel_rfl) (fun _ _ _ h => h) (Or.inl ⟨by rfl, ?_⟩) ?_
            · intro w; go_simp
            show wpAny _ _ _ _ _ _ (Act.put _ (some 6) _) _
            try simp only [putAll, Act.put, List.setIfInBounds_toArray, List.set_cons_zero, List.set_cons_succ]
            refine wpAny_take (i := 17) (oi := _) (v := .int .i64 0) rfl (by kernel_rfl) (by kernel_rfl) (by kernel_rfl) (fun _ _ _ h => h) (Or.inl ⟨by rfl, ?_⟩) ?_
            · intro w; go_simp
            show wpAny _ _ _ _ _ _ (Act.put _ (some 7) _) _
            try simp only [putAll, Act.put, List.setIfInBounds_toArray, List.set_cons_zero, List.set_cons_succ]
            refine wpAny_done (by kernel_rfl) ?_ _
            have hst := sxStep_ok Hinv.out hlt Hres.out
            have Hst := hid hst
            clear hst
            have hgx := (HS.out wx Hb.out).2.2
            have Hgx := hid hgx
            clear hgx
            have hfr3 : Hid (Fr B w w3) := (((hfr.out.trans (Fr.of_below (Nat.le_trans hB hfr.out.bel.size) Hbw.out)).trans (Fr.of_below HBs.out Hb.out))).trans Hfr.out
            go_wp2_with fail
            go_roundg m
            case measure => have := Hm.out; omega
            case rel => exact ⟨a', gl', cap', ls', x', H3.out, by rw [Hf3.out, Hl3.out]; exact Hst.out.2, by have h8 := Hst.out.1; have h9 := Hst.out.2.le; have := Hm.out; omega, by rw [Hf3.out, Hl3.out]; have h9 := hrun.out; rw [Hm.out, sxRun, if_pos hlt, Hres.out] at h9; exact h9, (Hfr.out.kept gs _ _ _ Hgx.out (by decide) (by decide) (by decide)).trans Hgx.out, hfr3.out⟩
      · refine wp_region_facts12 (w0 := w2) 12 6 [21, 22, 23, 24, 25, 26, 27, 28, 29, 30, 31, 32] [u21, u22, u23, u24, u25, u26, u27, u28, u29, u30, u31, u32]
          (fun i => match i with | 0 => sxEq (.pointer (some ⟨g, 0, none⟩)) | 1 => sxEq (.pointer (some ⟨g, 0, none⟩)) | 2 => sxEq (.pointer (some ⟨g, 0, none⟩)) | 3 => sxEq (.string s) | 4 => sxEq (.pointer (some ⟨g, 0, none⟩)) | 5 => sxEq (.pointer (some ⟨g, 0, none⟩)) | 6 => sxEq (.pointer (some ⟨g, 1, none⟩)) | 7 => sxEq (.int .i64 (a : Nat)) | 8 => sxEq (.int .u8 ((s[a]'hlt).toNat : Nat)) | 9 => sxEq (.int .i64 7) | 10 => sxEq (.pointer (some ⟨gs, 7, none⟩)) | _ => sxEq (stepF g 38)) [] (by kernel_rfl) (by kernel_rfl) (by kernel_rfl) (by kernel_rfl) (by decide) rfl (by kernel_rfl) rfl (by simp) ?he8 ?_ ?_ ?_
        case he8 => simp only [putAll, Act.put, List.setIfInBounds_toArray, List.set_cons_zero, List.set_cons_succ]
        · intro i hi; simp at hi
        · intro i o hi ho vs wx hvl hb hdep K hK
          have hvs := len12 hvl
          obtain ⟨s21, s22, s23, s24, s25, s26, s27, s28, s29, s30, s31, s32, rfl⟩ := hvs
          clear hvl
          have hk := HS.out wx hb
          obtain ⟨hk0, hk1, hk2⟩ := hk
          have hk3 : wx.cell? ⟨gs, 7, none⟩ = some (stepF g 38) := by rw [cell_of_row wx gs 7 _ _ (0, 0) hk2]; rfl
          clear hk2
          rcases i with _ | _ | _ | _ | _ | _ | _ | _ | _ | _ | _ | _ | i
          all_goals (simp only [List.getElem?_toArray, List.getElem?_cons_zero, List.getElem?_cons_succ, Option.some.injEq] at ho)
          all_goals try (subst ho)
          all_goals try simp only [putAll, Act.put, List.setIfInBounds_toArray, List.set_cons_zero, List.set_cons_succ]
          · go_simp
            have hK' := hK.out
            simp only [putAll, Act.put, List.setIfInBounds_toArray, List.set_cons_zero, List.set_cons_succ] at hK'
            exact hK' _ _ rfl (Below.refl _ _) (by simp)
          · have e0 : s21 = _ := hdep ⟨0, .data⟩ (by simp) rfl
            subst e0
            go_simp
            have hK' := hK.out
            simp only [putAll, Act.put, List.setIfInBounds_toArray, List.set_cons_zero, List.set_cons_succ] at hK'
            exact hK' _ _ rfl (Below.refl _ _) (by simp)
          · have e1 : s22 = _ := hdep ⟨1, .data⟩ (by simp) rfl
            subst e1
            go_simp
            have hK' := hK.out
            simp only [putAll, Act.put, List.setIfInBounds_toArray, List.set_cons_zero, List.set_cons_succ] at hK'
            exact hK' _ _ rfl (Below.refl _ _) (by simp)
          · have e2 : s23 = _ := hdep ⟨2, .data⟩ (by simp) rfl
            subst e2
            go_simp
            have hK' := hK.out
            simp only [putAll, Act.put, List.setIfInBounds_toArray, List.set_cons_zero, List.set_cons_succ] at hK'
            exact hK' _ _ rfl (Below.refl _ _) (by simp)
          · go_simp
            have hK' := hK.out
            simp only [putAll, Act.put, List.setIfInBounds_toArray, List.set_cons_zero, List.set_cons_succ] at hK'
            exact hK' _ _ rfl (Below.refl _ _) (by simp)
          · have e4 : s25 = _ := hdep ⟨4, .data⟩ (by simp) rfl
            subst e4
            go_simp
            have hK' := hK.out
            simp only [putAll, Act.put, List.setIfInBounds_toArray, List.set_cons_zero, List.set_cons_succ] at hK'
            exact hK' _ _ rfl (Below.refl _ _) (by simp)
          · have e5 : s26 = _ := hdep ⟨5, .data⟩ (by simp) rfl
            subst e5
            go_simp
            have hK' := hK.out
            simp only [putAll, Act.put, List.setIfInBounds_toArray, List.set_cons_zero, List.set_cons_succ] at hK'
            exact hK' _ _ rfl (Below.refl _ _) (by simp)
          · have e6 : s27 = _ := hdep ⟨6, .data⟩ (by simp) rfl
            subst e6
            go_simp
            have hK' := hK.out
            simp only [putAll, Act.put, List.setIfInBounds_toArray, List.set_cons_zero, List.set_cons_succ] at hK'
            exact hK' _ _ rfl (Below.refl _ _) (by simp)
          · have e3 : s24 = _ := hdep ⟨3, .data⟩ (by simp) rfl
            subst e3
            have e7 : s28 = _ := hdep ⟨7, .data⟩ (by simp) rfl
            subst e7
            go_simp
            have hK' := hK.out
            simp only [putAll, Act.put, List.setIfInBounds_toArray, List.set_cons_zero, List.set_cons_succ] at hK'
            exact hK' _ _ rfl (Below.refl _ _) (by simp)
          · have e8 : s29 = _ := hdep ⟨8, .data⟩ (by simp) rfl
            subst e8
            go_simp
            refine (Hso.out _).mono ?_
            rintro e wy ⟨rfl, hby⟩
            go_wp2_with fail
            have hK' := hK.out
            simp only [putAll, Act.put, List.setIfInBounds_toArray, List.set_cons_zero, List.set_cons_succ] at hK'
            exact hK' _ _ rfl hby (by simp)
          · have e9 : s30 = _ := hdep ⟨9, .data⟩ (by simp) rfl
            subst e9
            go_simp
            have hK' := hK.out
            simp only [putAll, Act.put, List.setIfInBounds_toArray, List.set_cons_zero, List.set_cons_succ] at hK'
            exact hK' _ _ rfl (Below.refl _ _) (by simp)
          · have e10 : s31 = _ := hdep ⟨10, .data⟩ (by simp) rfl
            subst e10
            go_simp
            have hK' := hK.out
            simp only [putAll, Act.put, List.setIfInBounds_toArray, List.set_cons_zero, List.set_cons_succ] at hK'
            exact hK' _ _ rfl (Below.refl _ _) (by simp)
          · omega
        · intro vs wx hvl hb hf hdist
          have hvs := len12 hvl
          obtain ⟨s21, s22, s23, s24, s25, s26, s27, s28, s29, s30, s31, s32, rfl⟩ := hvs
          have f0 : s21 = .pointer (some ⟨g, 0, none⟩) := hf 0 (by decide)
          have f11 : s32 = stepF g 38 := hf 11 (by decide)
          subst f0 f11
          clear hf hdist hvl
          have hmod := model_7 (Hrd2.out.below hb) Hinv.out hlt hs (Nat.le_trans HBs.out hb.size) Hkat.out
          have Hmod := hid hmod
          have Hb := hid hb
          clear hmod hb
          refine wpAny_one (i := 12) (by kernel_rfl) rfl ?_
          intro K hK
          try simp only [putAll, Act.put, List.setIfInBounds_toArray, List.set_cons_zero, List.set_cons_succ]
          unfold stepF
          go_simp
          refine Hmod.out.mono ?_
          rintro e w3 hmd
          rcases hres : sxStep s a (ls.map Lv.pr) x.pr with ⟨p, er⟩ | ⟨a', f', l'⟩
          · rw [hres] at hmd
            obtain ⟨rfl, n3, rfl⟩ := hmd
            have Hres := hid hres
            clear hres
            go_wp2_with fail
            have hK' := hK.out
            apply hK'
            clear hK hK'
            refine wpAny_one (i := 13) (by kernel_rfl) rfl ?_
            intro K hK
            go_simp
            have hK' := hK.out
            apply hK'
            clear hK hK'
            refine wpAny_take (i := 14) (oi := _) (v := .int .i64 (p : Nat)) rfl (by kernel_rfl) (by kernel_rfl) (by kernel_rfl) (fun _ _ _ h => h) (Or.inl ⟨by rfl, ?_⟩) ?_
            · intro w; go_simp
            show wpAny _ _ _ _ _ _ (Act.put _ (some 34) _) _
            try simp only [putAll, Act.put, List.setIfInBounds_toArray, List.set_cons_zero, List.set_cons_succ]
            refine wpAny_take (i := 15) (oi := _) (v := .int .i64 (er : Nat)) rfl (by kernel_rfl) (by kernel_rfl) (by kernel_rfl) (fun _ _ _ h => h) (Or.inl ⟨by rfl, ?_⟩) ?_
            · intro w; go_simp
            show wpAny _ _ _ _ _ _ (Act.put _ (some 35) _) _
            try simp only [putAll, Act.put, List.setIfInBounds_toArray, List.set_cons_zero, List.set_cons_succ]
            refine wpAny_take (i := 16) (oi := _) (v := .int .i64 (p : Nat)) rfl (by kernel_rfl) (by kernel_rfl) (by kernel_rfl) (fun _ _ _ h => h) (Or.inl ⟨by rfl, ?_⟩) ?_
            · intro w; go_simp
            show wpAny _ _ _ _ _ _ (Act.put _ (some 6) _) _
            try simp only [putAll, Act.put, List.setIfInBounds_toArray, List.set_cons_zero, List.set_cons_succ]
            refine wpAny_take (i := 17) (oi := _) (v := .int .i64 (er : Nat)) rfl (by kernel_rfl) (by kernel_rfl) (by kernel_rfl) (fun _ _ _ h => h) (Or.inl ⟨by rfl, ?_⟩) ?_
            · intro w; go_simp
            show wpAny _ _ _ _ _ _ (Act.put _ (some 7) _) _
            try simp only [putAll, Act.put, List.setIfInBounds_toArray, List.set_cons_zero, List.set_cons_succ]
            refine wpAny_done (by kernel_rfl) ?_ _
            have hne := sxStep_err Hres.out
            have hnb : ((er : Int) != 0) = true := by rw [bne_iff_ne]; omega
            have Hne := hid hne
            clear hne
            have hR2 : Hid (R = .error (p, er)) := by
              have h9 := hrun.out
              rw [Hm.out, sxRun, if_pos hlt, Hres.out] at h9
              exact h9.symm
            have hbel : Hid (Below B w (wx.drewN n3)) := ((((hfr.out.trans (Fr.of_below (Nat.le_trans hB hfr.out.bel.size) Hbw.out)).trans (Fr.of_below HBs.out Hb.out))).trans (Fr.drewN B wx n3)).bel
            go_wp2_with fail
            go_ret3
            rw [hR2.out]
            exact ⟨rfl, hbel.out⟩
          · rw [hres] at hmd
            obtain ⟨rfl, gl', cap', ls', x', h3, hf3, hl3, hfr⟩ := hmd
            have Hres := hid hres
            have H3 := hid h3; have Hf3 := hid hf3; have Hl3 := hid hl3; have Hfr := hid hfr
            clear hres h3 hf3 hl3 hfr
            go_wp2_with fail
            have hK' := hK.out
            apply hK'
            clear hK hK'
            refine wpAny_one (i := 13) (by kernel_rfl) rfl ?_
            intro K hK
            go_simp
            have hK' := hK.out
            apply hK'
            clear hK hK'
            refine wpAny_take (i := 14) (oi := _) (v := .int .i64 0) rfl (by kernel_rfl) (by kernel_rfl) (by kernel_rfl) (fun _ _ _ h => h) (Or.inl ⟨by rfl, ?_⟩) ?_
            · intro w; go_simp
            show wpAny _ _ _ _ _ _ (Act.put _ (some 34) _) _
            try simp only [putAll, Act.put, List.setIfInBounds_toArray, List.set_cons_zero, List.set_cons_succ]
            refine wpAny_take (i := 15) (oi := _) (v := .int .i64 0) rfl (by kernel_rfl) (by kernel_rfl) (by kernel_rfl) (fun _ _ _ h => h) (Or.inl ⟨by rfl, ?_⟩) ?_
            · intro w; go_simp
            show wpAny _ _ _ _ _ _ (Act.put _ (some 35) _) _
            try simp only [putAll, Act.put, List.setIfInBounds_toArray, List.set_cons_zero, List.set_cons_succ]
            refine wpAny_take (i := 16) (oi := _) (v := .int .i64 0) rfl (by kernel_rfl) (by kernel_rfl) (by kernel_rfl) (fun _ _ _ h => h) (Or.inl ⟨by rfl, ?_⟩) ?_
            · intro w; go_simp
            show wpAny _ _ _ _ _ _ (Act.put _ (some 6) _) _
            try simp only [putAll, Act.put, List.setIfInBounds_toArray, List.set_cons_zero, List.set_cons_succ]
            refine wpAny_take (i := 17) (oi := _) (v := .int .i64 0) rfl (by kernel_rfl) (by kernel_rfl) (by kernel_rfl) (fun _ _ _ h => h) (Or.inl ⟨by rfl, ?_⟩) ?_
            · intro w; go_simp
            show wpAny _ _ _ _ _ _ (Act.put _ (some 7) _) _
            try simp only [putAll, Act.put, List.setIfInBounds_toArray, List.set_cons_zero, List.set_cons_succ]
            refine wpAny_done (by kernel_rfl) ?_ _
            have hst := sxStep_ok Hinv.out hlt Hres.out
            have Hst := hid hst
            clear hst
            have hgx := (HS.out wx Hb.out).2.2
            have Hgx := hid hgx
            clear hgx
            have hfr3 : Hid (Fr B w w3) := (((hfr.out.trans (Fr.of_below (Nat.le_trans hB hfr.out.bel.size) Hbw.out)).trans (Fr.of_below HBs.out Hb.out))).trans Hfr.out
            go_wp2_with fail
            go_roundg m
            case measure => have := Hm.out; omega
            case rel => exact ⟨a', gl', cap', ls', x', H3.out, by rw [Hf3.out, Hl3.out]; exact Hst.out.2, by have h8 := Hst.out.1; have h9 := Hst.out.2.le; have := Hm.out; omega, by rw [Hf3.out, Hl3.out]; have h9 := hrun.out; rw [Hm.out, sxRun, if_pos hlt, Hres.out] at h9; exact h9, (Hfr.out.kept gs _ _ _ Hgx.out (by decide) (by decide) (by decide)).trans Hgx.out, hfr3.out⟩
      · refine wp_region_facts12 (w0 := w2) 12 6 [21, 22, 23, 24, 25, 26, 27, 28, 29, 30, 31, 32] [u21, u22, u23, u24, u25, u26, u27, u28, u29, u30, u31, u32]
          (fun i => match i with | 0 => sxEq (.pointer (some ⟨g, 0, none⟩)) | 1 => sxEq (.pointer (some ⟨g, 0, none⟩)) | 2 => sxEq (.pointer (some ⟨g, 0, none⟩)) | 3 => sxEq (.string s) | 4 => sxEq (.pointer (some ⟨g, 0, none⟩)) | 5 => sxEq (.pointer (some ⟨g, 0, none⟩)) | 6 => sxEq (.pointer (some ⟨g, 1, none⟩)) | 7 => sxEq (.int .i64 (a : Nat)) | 8 => sxEq (.int .u8 ((s[a]'hlt).toNat : Nat)) | 9 => sxEq (.int .i64 8) | 10 => sxEq (.pointer (some ⟨gs, 8, none⟩)) | _ => sxEq (stepF g 39)) [] (by kernel_rfl) (by kernel_rfl) (by kernel_rfl) (by kernel_rfl) (by decide) rfl (by kernel_rfl) rfl (by simp) ?he9 ?_ ?_ ?_
        case he9 => simp only [putAll, Act.put, List.setIfInBounds_toArray, List.set_cons_zero, List.set_cons_succ]
        · intro i hi; simp at hi
        · intro i o hi ho vs wx hvl hb hdep K hK
          have hvs := len12 hvl
          obtain ⟨s21, s22, s23, s24, s25, s26, s27, s28, s29, s30, s31, s32, rfl⟩ := hvs
          clear hvl
          have hk := HS.out wx hb
          obtain ⟨hk0, hk1, hk2⟩ := hk
          have hk3 : wx.cell? ⟨gs, 8, none⟩ = some (stepF g 39) := by rw [cell_of_row wx gs 8 _ _ (0, 0) hk2]; rfl
          clear hk2
          rcases i with _ | _ | _ | _ | _ | _ | _ | _ | _ | _ | _ | _ | i
          all_goals (simp only [List.getElem?_toArray, List.getElem?_cons_zero, List.getElem?_cons_succ, Option.some.injEq] at ho)
          all_goals try (subst ho)
          all_goals try simp only [putAll, Act.put, List.setIfInBounds_toArray, List.set_cons_zero, List.set_cons_succ]
          · go_simp
            have hK' := hK.out
            simp only [putAll, Act.put, List.setIfInBounds_toArray, List.set_cons_zero, List.set_cons_succ] at hK'
            exact hK' _ _ rfl (Below.refl _ _) (by simp)
          · have e0 : s21 = _ := hdep ⟨0, .data⟩ (by simp) rfl
            subst e0
            go_simp
            have hK' := hK.out
            simp only [putAll, Act.put, List.setIfInBounds_toArray, List.set_cons_zero, List.set_cons_succ] at hK'
            exact hK' _ _ rfl (Below.refl _ _) (by simp)
          · have e1 : s22 = _ := hdep ⟨1, .data⟩ (by simp) rfl
            subst e1
            go_simp
            have hK' := hK.out
            simp only [putAll, Act.put, List.setIfInBounds_toArray, List.set_cons_zero, List.set_cons_succ] at hK'
            exact hK' _ _ rfl (Below.refl _ _) (by simp)
          · have e2 : s23 = _ := hdep ⟨2, .data⟩ (by simp) rfl
            subst e2
            go_simp
            have hK' := hK.out
            simp only [putAll, Act.put, List.setIfInBounds_toArray, List.set_cons_zero, List.set_cons_succ] at hK'
            exact hK' _ _ rfl (Below.refl _ _) (by simp)
          · go_simp
            have hK' := hK.out
            simp only [putAll, Act.put, List.setIfInBounds_toArray, List.set_cons_zero, List.set_cons_succ] at hK'
            exact hK' _ _ rfl (Below.refl _ _) (by simp)
          · have e4 : s25 = _ := hdep ⟨4, .data⟩ (by simp) rfl
            subst e4
            go_simp
            have hK' := hK.out
            simp only [putAll, Act.put, List.setIfInBounds_toArray, List.set_cons_zero, List.set_cons_succ] at hK'
            exact hK' _ _ rfl (Below.refl _ _) (by simp)
          · have e5 : s26 = _ := hdep ⟨5, .data⟩ (by simp) rfl
            subst e5
            go_simp
            have hK' := hK.out
            simp only [putAll, Act.put, List.setIfInBounds_toArray, List.set_cons_zero, List.set_cons_succ] at hK'
            exact hK' _ _ rfl (Below.refl _ _) (by simp)
          · have e6 : s27 = _ := hdep ⟨6, .data⟩ (by simp) rfl
            subst e6
            go_simp
            have hK' := hK.out
            simp only [putAll, Act.put, List.setIfInBounds_toArray, List.set_cons_zero, List.set_cons_succ] at hK'
            exact hK' _ _ rfl (Below.refl _ _) (by simp)
          · have e3 : s24 = _ := hdep ⟨3, .data⟩ (by simp) rfl
            subst e3
            have e7 : s28 = _ := hdep ⟨7, .data⟩ (by simp) rfl
            subst e7
            go_simp
            have hK' := hK.out
            simp only [putAll, Act.put, List.setIfInBounds_toArray, List.set_cons_zero, List.set_cons_succ] at hK'
            exact hK' _ _ rfl (Below.refl _ _) (by simp)
          · have e8 : s29 = _ := hdep ⟨8, .data⟩ (by simp) rfl
            subst e8
            go_simp
            refine (Hso.out _).mono ?_
            rintro e wy ⟨rfl, hby⟩
            go_wp2_with fail
            have hK' := hK.out
            simp only [putAll, Act.put, List.setIfInBounds_toArray, List.set_cons_zero, List.set_cons_succ] at hK'
            exact hK' _ _ rfl hby (by simp)
          · have e9 : s30 = _ := hdep ⟨9, .data⟩ (by simp) rfl
            subst e9
            go_simp
            have hK' := hK.out
            simp only [putAll, Act.put, List.setIfInBounds_toArray, List.set_cons_zero, List.set_cons_succ] at hK'
            exact hK' _ _ rfl (Below.refl _ _) (by simp)
          · have e10 : s31 = _ := hdep ⟨10, .data⟩ (by simp) rfl
            subst e10
            go_simp
            have hK' := hK.out
            simp only [putAll, Act.put, List.setIfInBounds_toArray, List.set_cons_zero, List.set_cons_succ] at hK'
            exact hK' _ _ rfl (Below.refl _ _) (by simp)
          · omega
        · intro vs wx hvl hb hf hdist
          have hvs := len12 hvl
          obtain ⟨s21, s22, s23, s24, s25, s26, s27, s28, s29, s30, s31, s32, rfl⟩ := hvs
          have f0 : s21 = .pointer (some ⟨g, 0, none⟩) := hf 0 (by decide)
          have f11 : s32 = stepF g 39 := hf 11 (by decide)
          subst f0 f11
          clear hf hdist hvl
          have hmod := model_8 (Hrd2.out.below hb) Hinv.out hlt hs (Nat.le_trans HBs.out hb.size) (by rw [Hkat.out]; exact Nat.le_refl _)
          have Hmod := hid hmod
          have Hb := hid hb
          clear hmod hb
          refine wpAny_one (i := 12) (by kernel_rfl) rfl ?_
          intro K hK
          try simp only [putAll, Act.put, List.setIfInBounds_toArray, List.set_cons_zero, List.set_cons_succ]
          unfold stepF
          go_simp
          refine Hmod.out.mono ?_
          rintro e w3 hmd
          rcases hres : sxStep s a (ls.map Lv.pr) x.pr with ⟨p, er⟩ | ⟨a', f', l'⟩
          · rw [hres] at hmd
            obtain ⟨rfl, n3, rfl⟩ := hmd
            have Hres := hid hres
            clear hres
            go_wp2_with fail
            have hK' := hK.out
            apply hK'
            clear hK hK'
            refine wpAny_one (i := 13) (by kernel_rfl) rfl ?_
            intro K hK
            go_simp
            have hK' := hK.out
            apply hK'
            clear hK hK'
            refine wpAny_take (i := 14) (oi := _) (v := .int .i64 (p : Nat)) rfl (by kernel_rfl) (by kernel_rfl) (by kernel_rfl) (fun _ _ _ h => h) (Or.inl ⟨by rfl, ?_⟩) ?_
            · intro w; go_simp
            show wpAny _ _ _ _ _ _ (Act.put _ (some 34) _) _
            try simp only [putAll, Act.put, List.setIfInBounds_toArray, List.set_cons_zero, List.set_cons_succ]
            refine wpAny_take (i := 15) (oi := _) (v := .int .i64 (er : Nat)) rfl (by kernel_rfl) (by kernel_rfl) (by kernel_rfl) (fun _ _ _ h => h) (Or.inl ⟨by rfl, ?_⟩) ?_
            · intro w; go_simp
            show wpAny _ _ _ _ _ _ (Act.put _ (some 35) _) _
            try simp only [putAll, Act.put, List.setIfInBounds_toArray, List.set_cons_zero, List.set_cons_succ]
            refine wpAny_take (i := 16) (oi := _) (v := .int .i64 (p : Nat)) rfl (by kernel_rfl) (by kernel_rfl) (by kernel_rfl) (fun _ _ _ h => h) (Or.inl ⟨by rfl, ?_⟩) ?_
            · intro w; go_simp
            show wpAny _ _ _ _ _ _ (Act.put _ (some 6) _) _
            try simp only [putAll, Act.put, List.setIfInBounds_toArray, List.set_cons_zero, List.set_cons_succ]
            refine wpAny_take (i := 17) (oi := _) (v := .int .i64 (er : Nat)) rfl (by kernel_rfl) (by kernel_rfl) (by kernel_rfl) (fun _ _ _ h => h) (Or.inl ⟨by rfl, ?_⟩) ?_
            · intro w; go_simp
            show wpAny _ _ _ _ _ _ (Act.put _ (some 7) _) _
            try simp only [putAll, Act.put, List.setIfInBounds_toArray, List.set_cons_zero, List.set_cons_succ]
            refine wpAny_done (by kernel_rfl) ?_ _
            have hne := sxStep_err Hres.out
            have hnb : ((er : Int) != 0) = true := by rw [bne_iff_ne]; omega
            have Hne := hid hne
            clear hne
            have hR2 : Hid (R = .error (p, er)) := by
              have h9 := hrun.out
              rw [Hm.out, sxRun, if_pos hlt, Hres.out] at h9
              exact h9.symm
            have hbel : Hid (Below B w (wx.drewN n3)) := ((((hfr.out.trans (Fr.of_below (Nat.le_trans hB hfr.out.bel.size) Hbw.out)).trans (Fr.of_below HBs.out Hb.out))).trans (Fr.drewN B wx n3)).bel
            go_wp2_with fail
            go_ret3
            rw [hR2.out]
            exact ⟨rfl, hbel.out⟩
          · rw [hres] at hmd
            obtain ⟨rfl, gl', cap', ls', x', h3, hf3, hl3, hfr⟩ := hmd
            have Hres := hid hres
            have H3 := hid h3; have Hf3 := hid hf3; have Hl3 := hid hl3; have Hfr := hid hfr
            clear hres h3 hf3 hl3 hfr
            go_wp2_with fail
            have hK' := hK.out
            apply hK'
            clear hK hK'
            refine wpAny_one (i := 13) (by kernel_rfl) rfl ?_
            intro K hK
            go_simp
            have hK' := hK.out
            apply hK'
            clear hK hK'
            refine wpAny_take (i := 14) (oi := _) (v := .int .i64 0) rfl (by kernel_rfl) (by kernel_rfl) (by kernel_rfl) (fun _ _ _ h => h) (Or.inl ⟨by rfl, ?_⟩) ?_
            · intro w; go_simp
            show wpAny _ _ _ _ _ _ (Act.put _ (some 34) _) _
            try simp only [putAll, Act.put, List.setIfInBounds_toArray, List.set_cons_zero, List.set_cons_succ]
            refine wpAny_take (i := 15) (oi := _) (v := .int .i64 0) rfl (by kernel_rfl) (by kernel_rfl) (by kernel_rfl) (fun _ _ _ h => h) (Or.inl ⟨by rfl, ?_⟩) ?_
            · intro w; go_simp
            show wpAny _ _ _ _ _ _ (Act.put _ (some 35) _) _
            try simp only [putAll, Act.put, List.setIfInBounds_toArray, List.set_cons_zero, List.set_cons_succ]
            refine wpAny_take (i := 16) (oi := _) (v := .int .i64 0) rfl (by kernel_rfl) (by kernel_rfl) (by kernel_rfl) (fun _ _ _ h => h) (Or.inl ⟨by rfl, ?_⟩) ?_
            · intro w; go_simp
            show wpAny _ _ _ _ _ _ (Act.put _ (some 6) _) _
            try simp only [putAll, Act.put, List.setIfInBounds_toArray, List.set_cons_zero, List.set_cons_succ]
            refine wpAny_take (i := 17) (oi := _) (v := .int .i64 0) rfl (by kernel_rfl) (by kernel_rfl) (by kernel_rfl) (fun _ _ _ h => h) (Or.inl ⟨by rfl, ?_⟩) ?_
            · intro w; go_simp
            show wpAny _ _ _ _ _ _ (Act.put _ (some 7) _) _
            try simp only [putAll, Act.put, List.setIfInBounds_toArray, List.set_cons_zero, List.set_cons_succ]
            refine wpAny_done (by kernel_rfl) ?_ _
            have hst := sxStep_ok Hinv.out hlt Hres.out
            have Hst := hid hst
            clear hst
            have hgx := (HS.out wx Hb.out).2.2
            have Hgx := hid hgx
            clear hgx
            have hfr3 : Hid (Fr B w w3) := (((hfr.out.trans (Fr.of_below (Nat.le_trans hB hfr.out.bel.size) Hbw.out)).trans (Fr.of_below HBs.out Hb.out))).trans Hfr.out
            go_wp2_with fail
            go_roundg m
            case measure => have := Hm.out; omega
            case rel => exact ⟨a', gl', cap', ls', x', H3.out, by rw [Hf3.out, Hl3.out]; exact Hst.out.2, by have h8 := Hst.out.1; have h9 := Hst.out.2.le; have := Hm.out; omega, by rw [Hf3.out, Hl3.out]; have h9 := hrun.out; rw [Hm.out, sxRun, if_pos hlt, Hres.out] at h9; exact h9, (Hfr.out.kept gs _ _ _ Hgx.out (by decide) (by decide) (by decide)).trans Hgx.out, hfr3.out⟩
    · have ha2 : a = s.size := by omega
      have hl1 : ¬ ((a : Int) < (s.size : Int)) := by omega
      have hR2 : Hid (R = .ok (ls.map Lv.pr, x.pr)) := by
        have h9 := hrun.out
        rw [Hm.out, sxRun, if_neg hlt] at h9
        exact h9.symm
      have c2 := Hrd.out.c2
      rw [List.length_append, List.length_singleton] at c2
      clear hlt ha2
      by_cases hls : ls = []
      · subst hls
        have hlv := Hrd.out.lv
        have e0 := hlv.cellAt 1 (by simp)
        obtain ⟨vs, hop⟩ := Hrd.out.open_ x (by simp)
        obtain ⟨p, n, c, hv⟩ : ∃ p n c, x.v = .slice p n c := by
          rcases hop.own.2 with ⟨e1, e2⟩ | ⟨g5, c5, cur, e1, -⟩
          · exact ⟨_, _, _, e1⟩
          · exact ⟨_, _, _, e1⟩
        have e1 : wr.cell? ⟨gl, 1, none⟩ = some (.slice p n c) := by rw [e0]; show some x.v = _; rw [hv]
        have hrow : Hid (RowAt wr (fun b => B ≤ b) (.slice p n c) x.l) := by
          have := hop.row (D' := fun b => B ≤ b) (fun k hk => (hop.blk hk).1) (fun b hb => hb.1)
          rwa [hv] at this
        have c2' : wr.cell? ⟨g, 2, none⟩ = some (.slice (some ⟨gl, 0, none⟩) 1 cap) := c2
        clear hlv hop hv c2 e0
        go_wp2_with fail
        go_quiet (fail)
        go_wp2_with fail
        go_ret3
        rw [hR2.out]
        exact ⟨_, rfl, hrow.out.keep fun b hb => ⟨hb, fun _ => rfl⟩, (hfr.out.trans (Fr.drewN B wr _)).bel⟩
      · have hlen : 0 < ls.length := List.length_pos_iff.2 hls
        have hlv := Hrd.out.lv
        rw [List.length_append, List.length_singleton, lvCells_snoc] at hlv
        have e0 := hlv.cellAt (ls.length * 2) (by omega)
        rw [List.getElem?_append_right (by rw [lvCells_length]; omega), lvCells_length, show ls.length * 2 - ls.length * 2 = 0 by omega] at e0
        simp only [List.getElem?_cons_zero] at e0
        have hin := fun m => innermost_any g gl ls.length cap (wr.drewN m) c2 (by have := Hinv.out.deep; rw [List.length_map] at this; omega)
        have Hin := hid hin
        have hd64 : ls.length ≤ 64 := by have := Hinv.out.deep; rwa [List.length_map] at this
        have hgt : (1 : Int) < (ls.length : Int) + 1 := by omega
        have hne2 : Hid (ls.map Lv.pr ≠ []) := fun e => hls (List.map_eq_nil_iff.1 e)
        clear hlv hin hls
        go_wp2_with fail
        go_quiet (fail)
        go_wp2_with fail
        obtain ⟨w5, hW⟩ : ∃ w5, w5 = wr.drewN nq := ⟨_, rfl⟩
        have hin5 : ∀ m, Calls Try.prog 24 #[.pointer (some ⟨g, 0, none⟩)] (w5.drewN m) (SxDrawn (.pointer (some ⟨gl, ls.length * 2, none⟩)) (w5.drewN m)) := fun m => by
          rw [hW, drewN_drewN]; exact Hin.out _
        have e5 : w5.cell? ⟨gl, ls.length * 2, none⟩ = some (.int .i64 (x.at_ : Nat)) := by rw [hW]; exact e0
        have Hin5 := hid hin5; have HW := hid hW
        rw [← hW]
        clear hin5 hW e0 c2 c0 c1
        go_quiet ((go_at_call 24; exact Calls.quiet_of (Hin5.out _)))
        go_wp2_with fail
        go_ret3
        rw [hR2.out]
        show if _ then _ else _
        rw [if_neg hne2.out]
        exact ⟨rfl, by rw [HW.out, drewN_drewN]; exact (hfr.out.trans (Fr.drewN B wr _)).bel⟩
end Go.Proofs.Ytcpkejonpnmljaa
