/- Texts put together: SxSame, SxBack, SxAgain, SxJoinMath, SxJoins. -/
import Derived.Test.YtcpkejonpnmljaaSexpLongCardM6
import Derived.Deep.RegionHeld3
import Derived.Deep.DeepCutAuto
import Derived.Laws.AppendOwnNone
/- elenchusref03.Same, of two expressions that read as one, places not asked. Made by gen_sxsame.py. -/
namespace Go.Proofs.Ytcpkejonpnmljaa
open Go.RowKit

theorem len13 {vs : List Value} (h : vs.length = 13) : ∃ a b c d e f g h i j k l m, vs = [a, b, c, d, e, f, g, h, i, j, k, l, m] := by
  match vs, h with
  | [a, b, c, d, e, f, g, h, i, j, k, l, m], _ => exact ⟨a, b, c, d, e, f, g, h, i, j, k, l, m, rfl⟩
def SameP (p : Px) : Prop := ∀ (N : Nat) (a1 a2 : Int) (v1 v2 : Value) (w : World), N ≤ w.heap.size → PxRow w N v1 p.parts → PxRow w N v2 p.parts →
  Calls Try.prog 14 #[.agg #[.int .i64 p.kind, .int .i64 a1, .string p.text, v1], .agg #[.int .i64 p.kind, .int .i64 a2, .string p.text, v2], .bool false] w fun e w' => e = .returned (.bool true) ∧ Below w.heap.size w w'

set_option maxRecDepth 100000 in
set_option maxHeartbeats 6400000 in
theorem same_step (p : Px) (hps : p.parts.length ≤ 281474976710656) (ih : ∀ i (h : i < p.parts.length), SameP (p.parts[i]'h)) : SameP p := by
  intro N a1 a2 v1 v2 w hN hr1 hr2
  obtain ⟨k, t, ps⟩ := p
  simp only [Px.kind, Px.text, Px.parts] at hps ih hr1 hr2 ⊢
  obtain ⟨p1, c1, rfl⟩ := hr1.form
  obtain ⟨p2, c2, rfl⟩ := hr2.form
  have hpi : (ps.length : Int) ≤ 281474976710656 := by omega
  have Hr1 := hid hr1; have Hr2 := hid hr2
  clear hr1 hr2
  obtain ⟨n, hn⟩ : ∃ n, n = ps.length := ⟨_, rfl⟩
  rw [← hn] at Hr1 Hr2 hpi ⊢
  have Hn := hid hn
  clear hn
  go_enter Try.func14, Try.ntmps14
  go_upto_region 1 with fail
  generalize hW : World.alloc (World.alloc w _) _ = W1
  have hb1 : Below w.heap.size w W1 := by rw [← hW]; exact (below1 _ _).alloc (by simp) _
  have hz1 : w.heap.size + 2 ≤ W1.heap.size := by rw [← hW]; simp
  have hx1 : W1.heap[w.heap.size]? = some (.cells #[.int .i64 k, .int .i64 a1, .string t, .slice p1 n c1] 30 (0, 0)) := by rw [← hW, heap_alloc_old _ _ (by simp)]; exact heap_alloc_new w _
  have hx2 : W1.heap[w.heap.size + 1]? = some (.cells #[.int .i64 k, .int .i64 a2, .string t, .slice p2 n c2] 30 (0, 0)) := by
    rw [← hW]
    have := heap_alloc_new (w.alloc (.cells #[.int .i64 k, .int .i64 a1, .string t, .slice p1 n c1] 30)) (.cells #[.int .i64 k, .int .i64 a2, .string t, .slice p2 n c2] 30)
    rwa [show (w.alloc (.cells #[.int .i64 k, .int .i64 a1, .string t, .slice p1 n c1] 30)).heap.size = w.heap.size + 1 by simp] at this
  have x0 := cell_of_row W1 _ 0 _ _ (0, 0) hx1; have x2 := cell_of_row W1 _ 2 _ _ (0, 0) hx1; have x3 := cell_of_row W1 _ 3 _ _ (0, 0) hx1
  have y0 := cell_of_row W1 _ 0 _ _ (0, 0) hx2; have y2 := cell_of_row W1 _ 2 _ _ (0, 0) hx2; have y3 := cell_of_row W1 _ 3 _ _ (0, 0) hx2
  have HX3 : Hid (W1.cell? ⟨w.heap.size, 3, none⟩ = some (.slice p1 n c1)) := x3
  have HY3 : Hid (W1.cell? ⟨w.heap.size + 1, 3, none⟩ = some (.slice p2 n c2)) := y3
  have HB1 := hid hb1
  clear hW hb1 hx1 hx2
  go_wp2_with fail
  go_loopw [42] (fun i wr => ∃ j : Nat, j ≤ n ∧ i = .int .i64 (j : Nat) ∧ Hid (Below W1.heap.size W1 wr)) (fun i _ => n - (RowKit.intOf i).toNat)
  case atStart => exact ⟨0, Nat.zero_le _, rfl, Below.refl _ _⟩
  case round =>
    obtain ⟨j, hj, rfl, hbr⟩ := hrel
    by_cases hlt : j < n
    · have hlt' : (j : Int) < (n : Int) := by omega
      have hlp : j < ps.length := by have := Hn.out; omega
      have hbw : Below w.heap.size w wr := HB1.out.trans (hbr.out.mono HB1.out.size)
      obtain ⟨rb1, off1, a1', vi1, hp1, hrb1, k0, k1, k2, k3, krow1⟩ := (Hr1.out.stay (hbw.mono hN)).at j hlp
      obtain ⟨rb2, off2, a2', vi2, hp2, hrb2, l0, l1, l2, l3, krow2⟩ := (Hr2.out.stay (hbw.mono hN)).at j hlp
      subst hp1 hp2
      have kr1 := krow1; have kr2 := krow2
      obtain ⟨pi1, ci1, rfl⟩ := kr1.form
      obtain ⟨pi2, ci2, rfl⟩ := kr2.form
      clear kr1 kr2
      have hcall : ∀ W, Below wr.heap.size wr W → Calls Try.prog 14 #[.agg #[.int .i64 (ps[j]'hlp).kind, .int .i64 a1', .string (ps[j]'hlp).text, .slice pi1 (ps[j]'hlp).parts.length ci1], .agg #[.int .i64 (ps[j]'hlp).kind, .int .i64 a2', .string (ps[j]'hlp).text, .slice pi2 (ps[j]'hlp).parts.length ci2], .bool false] W fun e w' => e = .returned (.bool true) ∧ Below W.heap.size W w' := fun W hb =>
        ih j hlp N a1' a2' _ _ W (by have := hbw.size; have := hb.size; omega) (krow1.stay (hb.mono (Nat.le_trans hN hbw.size))) (krow2.stay (hb.mono (Nat.le_trans hN hbw.size)))
      obtain ⟨K, hK⟩ : ∃ K, K = (ps[j]'hlp).kind := ⟨_, rfl⟩
      obtain ⟨T, hT⟩ : ∃ T, T = (ps[j]'hlp).text := ⟨_, rfl⟩
      obtain ⟨m, hm⟩ : ∃ m, m = (ps[j]'hlp).parts.length := ⟨_, rfl⟩
      rw [← hK, ← hT, ← hm] at hcall
      rw [← hK] at k0 l0; rw [← hT] at k2 l2; rw [← hm] at k3 l3
      have hw1 : rb1 < wr.heap.size := World.block_lt_of_cell? wr _ k0
      have hw2 : rb2 < wr.heap.size := World.block_lt_of_cell? wr _ l0
      have hwz := hbr.out.size
      have HS : Hid (∀ w', Below wr.heap.size wr w' → w'.cell? ⟨w.heap.size, 3, none⟩ = some (.slice (some ⟨rb1, off1, none⟩) n c1) ∧ w'.cell? ⟨w.heap.size + 1, 3, none⟩ = some (.slice (some ⟨rb2, off2, none⟩) n c2) ∧
          w'.cell? ⟨rb1, off1 + j * 4, none⟩ = some (.int .i64 K) ∧ w'.cell? ⟨rb1, off1 + j * 4 + 1, none⟩ = some (.int .i64 a1') ∧ w'.cell? ⟨rb1, off1 + j * 4 + 2, none⟩ = some (.string T) ∧ w'.cell? ⟨rb1, off1 + j * 4 + 3, none⟩ = some (.slice pi1 m ci1) ∧
          w'.cell? ⟨rb2, off2 + j * 4, none⟩ = some (.int .i64 K) ∧ w'.cell? ⟨rb2, off2 + j * 4 + 1, none⟩ = some (.int .i64 a2') ∧ w'.cell? ⟨rb2, off2 + j * 4 + 2, none⟩ = some (.string T) ∧ w'.cell? ⟨rb2, off2 + j * 4 + 3, none⟩ = some (.slice pi2 m ci2)) := fun w' hb =>
        ⟨(hb.cell (p := ⟨w.heap.size, 3, none⟩) (show w.heap.size < wr.heap.size by omega)).trans ((hbr.out.cell (p := ⟨w.heap.size, 3, none⟩) (show w.heap.size < W1.heap.size by omega)).trans HX3.out), (hb.cell (p := ⟨w.heap.size + 1, 3, none⟩) (show w.heap.size + 1 < wr.heap.size by omega)).trans ((hbr.out.cell (p := ⟨w.heap.size + 1, 3, none⟩) (show w.heap.size + 1 < W1.heap.size by omega)).trans HY3.out),
         (hb.cell (p := ⟨rb1, _, none⟩) hw1).trans k0, (hb.cell (p := ⟨rb1, _, none⟩) hw1).trans k1, (hb.cell (p := ⟨rb1, _, none⟩) hw1).trans k2, (hb.cell (p := ⟨rb1, _, none⟩) hw1).trans k3, (hb.cell (p := ⟨rb2, _, none⟩) hw2).trans l0, (hb.cell (p := ⟨rb2, _, none⟩) hw2).trans l1, (hb.cell (p := ⟨rb2, _, none⟩) hw2).trans l2, (hb.cell (p := ⟨rb2, _, none⟩) hw2).trans l3⟩
      have Hcall := hid hcall
      clear hK hT hm hcall k0 k1 k2 k3 l0 l1 l2 l3 krow1 krow2 Hr1 Hr2 x0 x2 x3 y0 y2 y3 HX3 HY3
      go_upto_region 6 with fail
      refine wp_region_facts (w0 := wr) 13 0 [45, 46, 47, 48, 49, 50, 51, 52, 53, 54, 55, 56, 57] [u45, u46, u47, u48, u49, u50, u51, u52, u53, u54, u55, u56, u57]
        (fun i => match i with | 0 => sxEq (.pointer (some ⟨w.heap.size, 3, none⟩)) | 1 => sxEq (.slice (some ⟨rb1, off1, none⟩) n c1) | 2 => sxEq (.int .i64 (j : Nat)) | 3 => sxEq (.pointer (some ⟨rb1, off1 + j * 4, none⟩)) | 4 => sxEq (.agg #[.int .i64 K, .int .i64 a1', .string T, .slice pi1 m ci1]) | 5 => sxEq (.pointer (some ⟨w.heap.size + 1, 3, none⟩)) | 6 => sxEq (.slice (some ⟨rb2, off2, none⟩) n c2) | 7 => sxEq (.int .i64 (j : Nat)) | 8 => sxEq (.pointer (some ⟨rb2, off2 + j * 4, none⟩)) | 9 => sxEq (.agg #[.int .i64 K, .int .i64 a2', .string T, .slice pi2 m ci2]) | 10 => sxEq (.bool false) | 11 => sxEq (.bool true) | _ => sxEq (.bool false)) [] (by kernel_rfl) (by kernel_rfl) (by kernel_rfl) (by kernel_rfl) (by decide) rfl (by kernel_rfl) rfl (by simp) ?he1 ?_ ?_ ?_
      case he1 => simp only [putAll, Act.put, List.setIfInBounds_toArray, List.set_cons_zero, List.set_cons_succ]
      · intro i hi; simp at hi
      · intro i o hi ho vs wx hvl hb hdep K hK
        have hvs := len13 hvl
        obtain ⟨s45, s46, s47, s48, s49, s50, s51, s52, s53, s54, s55, s56, s57, rfl⟩ := hvs
        clear hvl
        have hk := HS.out wx hb
        obtain ⟨q1, q2, k0, k1, k2, k3, l0, l1, l2, l3⟩ := hk
        rcases i with _ | _ | _ | _ | _ | _ | _ | _ | _ | _ | _ | _ | _ | i
        all_goals (simp only [List.getElem?_toArray, List.getElem?_cons_zero, List.getElem?_cons_succ, Option.some.injEq] at ho)
        all_goals try (subst ho)
        all_goals try simp only [putAll, Act.put, List.setIfInBounds_toArray, List.set_cons_zero, List.set_cons_succ]
        · go_simp
          have hK' := hK.out
          simp only [putAll, Act.put, List.setIfInBounds_toArray, List.set_cons_zero, List.set_cons_succ] at hK'
          exact hK' _ _ rfl (Below.refl _ _) (by simp)
        · have e0 : s45 = _ := hdep ⟨0, .data⟩ (by simp) rfl
          subst e0
          go_simp
          have hK' := hK.out
          simp only [putAll, Act.put, List.setIfInBounds_toArray, List.set_cons_zero, List.set_cons_succ] at hK'
          exact hK' _ _ rfl (Below.refl _ _) (by simp)
        · go_simp
          have hK' := hK.out
          simp only [putAll, Act.put, List.setIfInBounds_toArray, List.set_cons_zero, List.set_cons_succ] at hK'
          exact hK' _ _ rfl (Below.refl _ _) (by simp)
        · have e1 : s46 = _ := hdep ⟨1, .data⟩ (by simp) rfl
          subst e1
          have e2 : s47 = _ := hdep ⟨2, .data⟩ (by simp) rfl
          subst e2
          go_simp
          have hK' := hK.out
          simp only [putAll, Act.put, List.setIfInBounds_toArray, List.set_cons_zero, List.set_cons_succ] at hK'
          exact hK' _ _ rfl (Below.refl _ _) (by simp)
        · have e3 : s48 = _ := hdep ⟨3, .data⟩ (by simp) rfl
          subst e3
          go_simp
          have hK' := hK.out
          simp only [putAll, Act.put, List.setIfInBounds_toArray, List.set_cons_zero, List.set_cons_succ] at hK'
          exact hK' _ _ rfl (Below.refl _ _) (by simp)
        · go_simp
          have hK' := hK.out
          simp only [putAll, Act.put, List.setIfInBounds_toArray, List.set_cons_zero, List.set_cons_succ] at hK'
          exact hK' _ _ rfl (Below.refl _ _) (by simp)
        · have e5 : s50 = _ := hdep ⟨5, .data⟩ (by simp) rfl
          subst e5
          go_simp
          have hK' := hK.out
          simp only [putAll, Act.put, List.setIfInBounds_toArray, List.set_cons_zero, List.set_cons_succ] at hK'
          exact hK' _ _ rfl (Below.refl _ _) (by simp)
        · go_simp
          have hK' := hK.out
          simp only [putAll, Act.put, List.setIfInBounds_toArray, List.set_cons_zero, List.set_cons_succ] at hK'
          exact hK' _ _ rfl (Below.refl _ _) (by simp)
        · have e6 : s51 = _ := hdep ⟨6, .data⟩ (by simp) rfl
          subst e6
          have e7 : s52 = _ := hdep ⟨7, .data⟩ (by simp) rfl
          subst e7
          go_simp
          have hK' := hK.out
          simp only [putAll, Act.put, List.setIfInBounds_toArray, List.set_cons_zero, List.set_cons_succ] at hK'
          exact hK' _ _ rfl (Below.refl _ _) (by simp)
        · have e8 : s53 = _ := hdep ⟨8, .data⟩ (by simp) rfl
          subst e8
          go_simp
          have hK' := hK.out
          simp only [putAll, Act.put, List.setIfInBounds_toArray, List.set_cons_zero, List.set_cons_succ] at hK'
          exact hK' _ _ rfl (Below.refl _ _) (by simp)
        · go_simp
          have hK' := hK.out
          simp only [putAll, Act.put, List.setIfInBounds_toArray, List.set_cons_zero, List.set_cons_succ] at hK'
          exact hK' _ _ rfl (Below.refl _ _) (by simp)
        · have e4 : s49 = _ := hdep ⟨4, .data⟩ (by simp) rfl
          subst e4
          have e9 : s54 = _ := hdep ⟨9, .data⟩ (by simp) rfl
          subst e9
          have e10 : s55 = _ := hdep ⟨10, .data⟩ (by simp) rfl
          subst e10
          go_simp
          refine (Hcall.out wx hb).mono ?_
          rintro e wy ⟨rfl, hby⟩
          go_wp2_with fail
          have hK' := hK.out
          simp only [putAll, Act.put, List.setIfInBounds_toArray, List.set_cons_zero, List.set_cons_succ] at hK'
          exact hK' _ _ rfl hby (by simp)
        · have e11 : s56 = _ := hdep ⟨11, .data⟩ (by simp) rfl
          subst e11
          go_simp
          have hK' := hK.out
          simp only [putAll, Act.put, List.setIfInBounds_toArray, List.set_cons_zero, List.set_cons_succ] at hK'
          exact hK' _ _ rfl (Below.refl _ _) (by simp)
        · omega
      · intro vs wx hvl hb hf hdist
        have hvs := len13 hvl
        obtain ⟨s45, s46, s47, s48, s49, s50, s51, s52, s53, s54, s55, s56, s57, rfl⟩ := hvs
        have f12 : s57 = .bool false := hf 12 (by decide)
        subst f12
        clear hf hdist hvl
        refine wpAny_done (by kernel_rfl) ?_ _
        simp only [putAll, Act.put, List.setIfInBounds_toArray, List.set_cons_zero, List.set_cons_succ]
        have HBx := hid (hbr.out.trans (hb.mono hbr.out.size))
        clear hb
        go_wp2_with fail
        go_roundw
        case rel => exact ⟨j + 1, by omega, by go_num, HBx⟩
        case measure => (simp [RowKit.intOf] <;> omega)
    · obtain rfl : j = n := by omega
      have HBx := hid (HB1.out.trans (hbr.out.mono HB1.out.size))
      clear x0 x2 x3 y0 y2 y3 HX3 HY3
      go_wp2_with fail
      go_ret
      exact ⟨rfl, HBx.out⟩
mutual
theorem same_any : ∀ (p : Px), pxSmall p → SameP p
  | .mk k t ps, h => by
    unfold pxSmall at h
    exact same_step (.mk k t ps) h.2.1 (sames_any ps h.2.2)
theorem sames_any : ∀ (l : List Px), pxSmallL l → ∀ i (h : i < l.length), SameP (l[i]'h)
  | p :: l, hs, 0, _ => by unfold pxSmallL at hs; exact same_any p hs.1
  | p :: l, hs, i + 1, h => by unfold pxSmallL at hs; exact sames_any l hs.2 i (by simpa using h)
end
end Go.Proofs.Ytcpkejonpnmljaa
/- What is printed is read as it was; what is read can be printed: on lists of bytes. -/
namespace Go.Proofs.Ytcpkejonpnmljaa
open Go.RowKit

mutual
/-- the text of an expression -/
def pxTxt : Px → List UInt8
  | .mk k t ps => if k = 4 then 40 :: (pxTs false ps ++ [41]) else (pxSigns k t).getD []
def pxTs : Bool → List Px → List UInt8
  | _, [] => []
  | more, p :: l => (if more then [32] else []) ++ (pxTxt p ++ pxTs true l)
end
theorem pxTxt_mk (k : Int) (t : ByteArray) (ps : List Px) : pxTxt (.mk k t ps) = if k = 4 then 40 :: (pxTs false ps ++ [41]) else (pxSigns k t).getD [] := by rw [pxTxt]
theorem pxTs_nil (m : Bool) : pxTs m [] = [] := by rw [pxTs]
theorem pxTs_cons (m : Bool) (p : Px) (l : List Px) : pxTs m (p :: l) = (if m then [32] else []) ++ (pxTxt p ++ pxTs true l) := by rw [pxTs]
theorem wrPut_out {x y : Wr} {s : List UInt8} (h : wrPut x s = some y) : y.out = x.out ++ (if x.gap then [32] else []) ++ s ∧ y.gap = false := by
  unfold wrPut at h
  split at h
  · cases h; exact ⟨rfl, rfl⟩
  · cases h
mutual
theorem wrExpr_out : ∀ (p : Px) (deep : Nat) (x y : Wr), wrExpr p deep x = some y → y.out = x.out ++ (if x.gap then [32] else []) ++ pxTxt p ∧ y.gap = false
  | .mk k t ps, deep, x, y, h => by
    rw [wrExpr_mk] at h
    rw [pxTxt_mk]
    split at h
    · next hk =>
      rw [if_pos hk]
      split at h
      · cases h
      · unfold wrList at h
        cases h1 : wrPut x [40] with
        | none => rw [h1] at h; cases h
        | some x1 =>
          rw [h1] at h
          simp only [Option.bind_some] at h
          cases h2 : wrParts ps deep false x1 with
          | none => rw [h2] at h; cases h
          | some x2 =>
            rw [h2] at h
            simp only [Option.bind_some] at h
            obtain ⟨a1, a2⟩ := wrPut_out h1
            obtain ⟨b1, b2⟩ := wrParts_out ps deep false x1 x2 h2 a2
            obtain ⟨c1, c2⟩ := wrPut_out h
            refine ⟨?_, c2⟩
            rw [c1, b1, a1, b2]
            simp
    · next hk =>
      rw [if_neg hk]
      split at h
      · cases h
      · next s hs =>
        split at h
        · rw [hs]; exact wrPut_out h
        · cases h
theorem wrParts_out : ∀ (l : List Px) (deep : Nat) (more : Bool) (x y : Wr), wrParts l deep more x = some y → x.gap = false → y.out = x.out ++ pxTs more l ∧ y.gap = false
  | [], deep, more, x, y, h, hg => by rw [wrParts_nil] at h; cases h; rw [pxTs_nil]; simp [hg]
  | p :: l, deep, more, x, y, h, hg => by
    rw [wrParts_cons] at h
    rw [pxTs_cons]
    cases h1 : wrExpr p (deep + 1) { x with gap := more } with
    | none => rw [h1] at h; cases h
    | some x1 =>
      rw [h1] at h
      simp only [Option.bind_some] at h
      obtain ⟨a1, a2⟩ := wrExpr_out p (deep + 1) { x with gap := more } x1 h1
      obtain ⟨b1, b2⟩ := wrParts_out l deep true x1 y h a2
      refine ⟨?_, b2⟩
      rw [b1, a1]
      simp
end

/-- what follows is no sign of a symbol -/
def NonSign (post : List UInt8) : Prop := ∀ c r, post = c :: r → sxSign c.toNat = false
theorem tw_stop {p : UInt8 → Bool} : ∀ (l : List UInt8) {post : List UInt8}, (∀ c ∈ l, p c = true) → (∀ c r, post = c :: r → p c = false) → (l ++ post).takeWhile p = l ∧ (l ++ post).dropWhile p = post
  | [], post, _, hp => by
    cases post with
    | nil => exact ⟨rfl, rfl⟩
    | cons c r => simp [List.takeWhile_cons, List.dropWhile_cons, hp c r rfl]
  | a :: l, post, h, hp => by
    have ha := h a (by simp)
    obtain ⟨i1, i2⟩ := tw_stop l (fun c hc => h c (by simp [hc])) hp
    simp [List.takeWhile_cons, List.dropWhile_cons, ha, i1, i2]
theorem sign_of_all {s : ByteArray} (h : sxAll sxSign s = true) : ∀ c ∈ s.data.toList, sxSign c.toNat = true := by
  unfold sxAll at h; exact List.all_eq_true.1 h
theorem quo_of_all {s : ByteArray} (h : sxAll sxQuo s = true) : ∀ c ∈ s.data.toList, sxQuo c.toNat = true := by
  unfold sxAll at h; exact List.all_eq_true.1 h
theorem sign_of_dig {n : Nat} (h : sxDig n = true) : sxSign n = true := by unfold sxDig at h; unfold sxSign; rw [h]; simp
theorem Rd_leaf {k : Int} {t : ByteArray} {s post : List UInt8} {f f2 : List (List Px)} {l l2 : List Px} (h : pxSigns k t = some s) (hp : NonSign post) (hr : Rd post f (l ++ [.mk k t []]) f2 l2) : Rd (s ++ post) f l f2 l2 := by
  unfold pxSigns at h
  split at h
  · next hk =>
    subst hk
    split at h
    · next hpl =>
      injection h with h
      subst h
      cases hl : t.data.toList with
      | nil => unfold sxPlain at hpl; rw [hl] at hpl; cases hpl
      | cons c r =>
        have hpl' := hpl
        unfold sxPlain at hpl'; rw [hl] at hpl'
        simp only [Bool.and_eq_true, beq_iff_eq] at hpl'
        obtain ⟨t1, t2⟩ := tw_stop (p := fun c => sxSign c.toNat) (c :: r) (post := post) (by rw [← hl]; exact sign_of_all hpl'.2) hp
        refine .step (r := post) (f1 := f) (l1 := l ++ [.mk 1 t []]) ?_ hr
        unfold rdStep
        rw [hpl'.1]
        simp only
        rw [List.cons_append] at t1 t2
        have e1 : bz (c :: r) = t := by rw [← hl]; rfl
        simp only [List.append_eq, t1, t2, e1]
    · split at h
      · next hq =>
        injection h with h
        subst h
        have hc : sxQuo (124 : UInt8).toNat = false := by decide +kernel
        obtain ⟨t1, t2⟩ := tw_stop (p := fun c => sxQuo c.toNat) t.data.toList (post := 124 :: post) (quo_of_all hq) (fun c r e => by injection e with e _; rw [← e]; exact hc)
        refine .step (r := post) (f1 := f) (l1 := l ++ [.mk 1 t []]) ?_ hr
        have h5 : sxSort (124 : UInt8).toNat = 5 := by decide +kernel
        unfold rdStep
        rw [h5]
        simp only [List.append_eq, List.append_assoc, List.cons_append, List.nil_append, t1, t2, h5, if_true]
        rfl
      · cases h
  · split at h
    · next hk =>
      subst hk
      split at h
      · next hn =>
        injection h with h
        subst h
        cases hl : t.data.toList with
        | nil => unfold sxNum at hn; rw [hl] at hn; cases hn
        | cons c r =>
          have hn' := hn
          unfold sxNum at hn'; rw [hl] at hn'
          simp only [Bool.or_eq_true, Bool.and_eq_true, beq_iff_eq, bne_iff_ne] at hn'
          have hall : ∀ x ∈ c :: r, sxDig x.toNat = true := by
            rcases hn' with ⟨h1, h2⟩ | ⟨h1, h2⟩
            · have : r = [] := by simpa using h2
              subst this
              intro x hx
              obtain rfl : x = c := by simpa using hx
              rw [h1]; decide +kernel
            · unfold sxAll at h2
              rw [hl] at h2
              simpa using h2
          have hs4 : sxSort c.toNat = 4 := by have := hall c (by simp); unfold sxDig at this; simpa using this
          obtain ⟨t1, t2⟩ := tw_stop (p := fun c => sxSign c.toNat) (c :: r) (post := post) (fun x hx => sign_of_dig (hall x hx)) hp
          refine .step (r := post) (f1 := f) (l1 := l ++ [.mk 2 t []]) ?_ hr
          have e1 : bz (c :: r) = t := by rw [← hl]; rfl
          unfold rdStep
          rw [hs4]
          simp only
          rw [List.cons_append] at t1 t2
          simp only [List.append_eq, t1, t2, e1, hn, if_true]
      · cases h
    · split at h
      · next hk =>
        subst hk
        split at h
        · next hky =>
          injection h with h
          subst h
          have hky' := hky
          unfold sxKey at hky'
          simp only [Bool.and_eq_true, Bool.not_eq_true', List.isEmpty_eq_false_iff] at hky'
          obtain ⟨t1, t2⟩ := tw_stop (p := fun c => sxSign c.toNat) t.data.toList (post := post) (sign_of_all hky'.2) hp
          refine .step (r := post) (f1 := f) (l1 := l ++ [.mk 3 t []]) ?_ hr
          have h6 : sxSort (58 : UInt8).toNat = 6 := by decide +kernel
          unfold rdStep
          rw [h6]
          simp only [List.append_eq, t1, t2, if_neg hky'.1]
          rfl
        · cases h
      · cases h
theorem nonSign_cons {c : UInt8} {r : List UInt8} (h : sxSign c.toNat = false) : NonSign (c :: r) := fun c' r' e => by injection e with e _; rw [← e]; exact h
theorem bz_empty {t : ByteArray} (h : t.size = 0) : t = bz [] := by
  have := sx_empty h
  cases t with | mk d => cases d with | mk l => simp at this; subst this; rfl
mutual
theorem Rd_px : ∀ (p : Px) (deep : Nat) (x y : Wr) (f : List (List Px)) (l : List Px) (post : List UInt8) (f2 : List (List Px)) (l2 : List Px), wrExpr p deep x = some y → f.length = deep → NonSign post → Rd post f (l ++ [p]) f2 l2 → Rd (pxTxt p ++ post) f l f2 l2
  | .mk k t ps, deep, x, y, f, l, post, f2, l2, h, hf, hp, hr => by
    rw [wrExpr_mk] at h
    rw [pxTxt_mk]
    split at h
    · next hk =>
      subst hk
      rw [if_pos rfl]
      split at h
      · cases h
      · next hn =>
        have hd : deep ≠ 64 := fun e => hn (.inr e)
        have ht : t.size = 0 := Classical.byContradiction fun e => hn (.inl e)
        obtain rfl := bz_empty ht
        unfold wrList at h
        cases h1 : wrPut x [40] with
        | none => rw [h1] at h; cases h
        | some x1 =>
          rw [h1] at h
          simp only [Option.bind_some] at h
          cases h2 : wrParts ps deep false x1 with
          | none => rw [h2] at h; cases h
          | some x2 =>
            have h8 : sxSort (41 : UInt8).toNat = 8 := by decide +kernel
            have h7 : sxSort (40 : UInt8).toNat = 7 := by decide +kernel
            have hin : Rd (pxTs false ps ++ (41 :: post)) (f ++ [l]) [] f2 l2 := by
              refine Rd_pxs ps deep false x1 x2 (f ++ [l]) [] (41 :: post) f2 l2 h2 (by simp [hf]) (nonSign_cons (by decide +kernel)) ?_
              refine .step (r := post) (f1 := f) (l1 := l ++ [.mk 4 (bz []) ps]) ?_ hr
              unfold rdStep
              rw [h8]
              simp
            have e : (40 :: (pxTs false ps ++ [41])) ++ post = 40 :: (pxTs false ps ++ (41 :: post)) := by simp
            rw [e]
            refine .step (r := pxTs false ps ++ (41 :: post)) (f1 := f ++ [l]) (l1 := []) ?_ hin
            unfold rdStep
            rw [h7]
            simp only
            rw [if_neg (by omega)]
    · next hk =>
      rw [if_neg hk]
      split at h
      · cases h
      · next s hs =>
        split at h
        · next hl =>
          obtain rfl := List.eq_nil_of_length_eq_zero hl
          rw [hs]
          exact Rd_leaf hs hp hr
        · cases h
theorem Rd_pxs : ∀ (ps : List Px) (deep : Nat) (more : Bool) (x y : Wr) (f : List (List Px)) (l : List Px) (post : List UInt8) (f2 : List (List Px)) (l2 : List Px), wrParts ps deep more x = some y → f.length = deep + 1 → NonSign post → Rd post f (l ++ ps) f2 l2 → Rd (pxTs more ps ++ post) f l f2 l2
  | [], deep, more, x, y, f, l, post, f2, l2, h, hf, hp, hr => by rw [pxTs_nil]; simpa using hr
  | p :: ps, deep, more, x, y, f, l, post, f2, l2, h, hf, hp, hr => by
    rw [wrParts_cons] at h
    rw [pxTs_cons]
    cases h1 : wrExpr p (deep + 1) { x with gap := more } with
    | none => rw [h1] at h; cases h
    | some x1 =>
      rw [h1] at h
      simp only [Option.bind_some] at h
      have hn : NonSign (pxTs true ps ++ post) := by
        cases ps with
        | nil => rw [pxTs_nil]; exact hp
        | cons q ps => rw [pxTs_cons]; exact nonSign_cons (by decide +kernel)
      have h2 := Rd_px p (deep + 1) { x with gap := more } x1 f l (pxTs true ps ++ post) f2 l2 h1 hf hn (Rd_pxs ps deep true x1 y f (l ++ [p]) post f2 l2 h hf hp (by simpa using hr))
      cases more with
      | false => simpa using h2
      | true =>
        have h32 : sxSort (32 : UInt8).toNat = 1 := by decide +kernel
        have e : (if true = true then [(32 : UInt8)] else []) ++ (pxTxt p ++ pxTs true ps) ++ post = 32 :: (pxTxt p ++ (pxTs true ps ++ post)) := by simp
        rw [e]
        refine .step (r := pxTxt p ++ (pxTs true ps ++ post)) (f1 := f) (l1 := l) ?_ h2
        unfold rdStep
        rw [h32]
        rfl
end
mutual
/-- room enough to write it -/
def pxCost : Px → Nat
  | .mk k t ps => if k = 4 then 4 + pxCosts ps else ((pxSigns k t).getD []).length + 1
def pxCosts : List Px → Nat
  | [] => 0
  | p :: l => pxCost p + pxCosts l
end
mutual
/-- what can be read inside so many lists -/
def pxWf : Nat → Px → Prop
  | deep, .mk k t ps => if k = 4 then t.size = 0 ∧ deep < 64 ∧ pxWfs (deep + 1) ps else (∃ s, pxSigns k t = some s) ∧ ps = []
def pxWfs : Nat → List Px → Prop
  | _, [] => True
  | deep, p :: l => pxWf deep p ∧ pxWfs deep l
end
theorem pxCost_mk (k : Int) (t : ByteArray) (ps : List Px) : pxCost (.mk k t ps) = if k = 4 then 4 + pxCosts ps else ((pxSigns k t).getD []).length + 1 := by rw [pxCost]
theorem pxCosts_cons (p : Px) (l : List Px) : pxCosts (p :: l) = pxCost p + pxCosts l := by rw [pxCosts]
theorem pxCosts_nil : pxCosts [] = 0 := by rw [pxCosts]
theorem pxWf_mk (deep : Nat) (k : Int) (t : ByteArray) (ps : List Px) : pxWf deep (.mk k t ps) = if k = 4 then t.size = 0 ∧ deep < 64 ∧ pxWfs (deep + 1) ps else (∃ s, pxSigns k t = some s) ∧ ps = [] := by rw [pxWf]
theorem pxWfs_cons (deep : Nat) (p : Px) (l : List Px) : pxWfs deep (p :: l) = (pxWf deep p ∧ pxWfs deep l) := by rw [pxWfs]
theorem pxWfs_nil (deep : Nat) : pxWfs deep [] = True := by rw [pxWfs]
theorem pxCosts_app (l m : List Px) : pxCosts (l ++ m) = pxCosts l + pxCosts m := by
  induction l with
  | nil => simp [pxCosts_nil]
  | cons p l ih => rw [List.cons_append, pxCosts_cons, pxCosts_cons, ih]; omega
theorem pxWfs_snoc {deep : Nat} {l : List Px} {p : Px} (h : pxWfs deep l) (hp : pxWf deep p) : pxWfs deep (l ++ [p]) := by
  induction l with
  | nil => rw [List.nil_append, pxWfs_cons, pxWfs_nil]; exact ⟨hp, trivial⟩
  | cons a l ih => rw [pxWfs_cons] at h; rw [List.cons_append, pxWfs_cons]; exact ⟨h.1, ih h.2⟩
theorem pxWfs_mem {deep : Nat} {l : List Px} (h : pxWfs deep l) : ∀ p ∈ l, pxWf deep p := by
  induction l with
  | nil => intro p hp; cases hp
  | cons a l ih =>
    rw [pxWfs_cons] at h
    intro p hp
    rcases List.mem_cons.1 hp with rfl | hp
    · exact h.1
    · exact ih h.2 p hp
theorem pxCosts_mem {l : List Px} : ∀ p ∈ l, pxCost p ≤ pxCosts l := by
  induction l with
  | nil => intro p hp; cases hp
  | cons a l ih =>
    intro p hp
    rw [pxCosts_cons]
    rcases List.mem_cons.1 hp with rfl | hp
    · omega
    · have := ih p hp; omega
theorem wrPut_some {x : Wr} {s : List UInt8} (h : s.length + 1 ≤ x.room) : ∃ y, wrPut x s = some y ∧ x.room ≤ y.room + (s.length + 1) := by
  have hn : wrNeed x s ≤ 1 := by unfold wrNeed; split <;> omega
  unfold wrPut
  rw [if_pos (by omega)]
  exact ⟨_, rfl, by simp; omega⟩
mutual
theorem wr_of_wf : ∀ (p : Px) (deep : Nat) (x : Wr), pxWf deep p → pxCost p ≤ x.room → ∃ y, wrExpr p deep x = some y ∧ x.room ≤ y.room + pxCost p
  | .mk k t ps, deep, x, h, hc => by
    rw [pxWf_mk] at h
    rw [pxCost_mk] at hc ⊢
    rw [wrExpr_mk]
    by_cases hk : k = 4
    · rw [if_pos hk] at h hc ⊢
      rw [if_pos hk]
      obtain ⟨h1, h2, h3⟩ := h
      rw [if_neg (by omega)]
      obtain ⟨x1, e1, r1⟩ := wrPut_some (x := x) (s := [40]) (by simp; omega)
      simp at r1
      obtain ⟨x2, e2, r2⟩ := wrs_of_wf ps deep false x1 h3 (by omega)
      obtain ⟨x3, e3, r3⟩ := wrPut_some (x := x2) (s := [41]) (by simp; omega)
      simp at r3
      refine ⟨x3, ?_, by omega⟩
      unfold wrList
      rw [e1]; simp only [Option.bind_some]; rw [e2]; exact e3
    · rw [if_neg hk] at h hc ⊢
      rw [if_neg hk]
      obtain ⟨⟨s, hs⟩, rfl⟩ := h
      rw [hs] at hc ⊢
      simp only [List.length_nil, if_true]
      exact wrPut_some hc
theorem wrs_of_wf : ∀ (l : List Px) (deep : Nat) (more : Bool) (x : Wr), pxWfs (deep + 1) l → pxCosts l ≤ x.room → ∃ y, wrParts l deep more x = some y ∧ x.room ≤ y.room + pxCosts l
  | [], deep, more, x, _, _ => ⟨x, wrParts_nil .., by omega⟩
  | p :: l, deep, more, x, h, hc => by
    rw [pxWfs_cons] at h
    rw [pxCosts_cons] at hc ⊢
    obtain ⟨x1, e1, r1⟩ := wr_of_wf p (deep + 1) { x with gap := more } h.1 (show pxCost p ≤ x.room by omega)
    have r1' : x.room ≤ x1.room + pxCost p := r1
    obtain ⟨x2, e2, r2⟩ := wrs_of_wf l deep true x1 h.2 (by omega)
    refine ⟨x2, ?_, by omega⟩
    rw [wrParts_cons, e1]; exact e2
end
mutual
theorem txt_le : ∀ (p : Px), (pxTxt p).length + 1 ≤ pxCost p
  | .mk k t ps => by
    rw [pxTxt_mk, pxCost_mk]
    split
    · have := txts_le false ps
      simp; omega
    · omega
theorem txts_le : ∀ (more : Bool) (l : List Px), (pxTs more l).length ≤ pxCosts l
  | m, [] => by rw [pxTs_nil]; simp
  | m, p :: l => by
    rw [pxTs_cons, pxCosts_cons]
    have h1 := txt_le p
    have h2 := txts_le true l
    have h3 : (if m = true then [(32 : UInt8)] else []).length ≤ 1 := by split <;> simp
    rw [List.length_append, List.length_append]
    omega
end
theorem costs_len : ∀ (l : List Px), l.length ≤ pxCosts l
  | [] => by simp
  | p :: l => by
    rw [pxCosts_cons]
    have := costs_len l
    have := txt_le p
    rw [List.length_cons]; omega
theorem signs_text {k : Int} {t : ByteArray} {s : List UInt8} (h : pxSigns k t = some s) : t.size ≤ s.length := by
  have hl : t.data.toList.length = t.size := Array.length_toList
  unfold pxSigns at h
  (repeat' split at h) <;> first | (cases h; done) | (injection h with h; rw [← h]; simp; done) | (injection h with h; rw [← h]; simp; omega)
mutual
theorem small_of_wf : ∀ (p : Px) (deep : Nat), pxWf deep p → pxCost p ≤ 281474976710656 → pxSmall p
  | .mk k t ps, deep, h, hc => by
    rw [pxWf_mk] at h
    rw [pxCost_mk] at hc
    unfold pxSmall
    by_cases hk : k = 4
    · rw [if_pos hk] at h hc
      have := costs_len ps
      exact ⟨by omega, by omega, smalls_of_wf ps (deep + 1) h.2.2 (by omega)⟩
    · rw [if_neg hk] at h hc
      obtain ⟨⟨s, hs⟩, rfl⟩ := h
      rw [hs] at hc
      have := signs_text hs
      simp only [Option.getD_some] at hc
      exact ⟨by omega, by simp, by unfold pxSmallL; trivial⟩
theorem smalls_of_wf : ∀ (l : List Px) (deep : Nat), pxWfs deep l → pxCosts l ≤ 281474976710656 → pxSmallL l
  | [], _, _, _ => by unfold pxSmallL; trivial
  | p :: l, deep, h, hc => by
    rw [pxWfs_cons] at h
    rw [pxCosts_cons] at hc
    unfold pxSmallL
    exact ⟨small_of_wf p deep h.1 (by omega), smalls_of_wf l deep h.2 (by omega)⟩
end
/-- what is read so far can be printed, with the room that it takes -/
structure RdInv (x : List UInt8) (f : List (List Px)) (l : List Px) (M : Nat) : Prop where
  deep : f.length ≤ 64
  front : ∀ i (h : i < f.length), pxWfs i (f[i]'h)
  last : pxWfs f.length l
  cost : (f.map pxCosts).sum + pxCosts l + 2 * f.length + 2 * x.length ≤ M
theorem tw_split {p : UInt8 → Bool} (l : List UInt8) : (l.takeWhile p).length + (l.dropWhile p).length = l.length := by
  have := congrArg List.length (List.takeWhile_append_dropWhile (p := p) (l := l))
  rwa [List.length_append] at this
theorem tw_all {p : UInt8 → Bool} (l : List UInt8) : ∀ c ∈ l.takeWhile p, p c = true := fun c hc => by
  have := List.all_takeWhile (p := p) (l := l)
  exact List.all_eq_true.1 this c hc
theorem RdInv.push {x r : List UInt8} {f : List (List Px)} {l : List Px} {M : Nat} {k : Int} {t : ByteArray} {s : List UInt8} (h : RdInv x f l M) (hs : pxSigns k t = some s) (hk : k ≠ 4) (hn : s.length + 1 + 2 * r.length ≤ 2 * x.length) : RdInv r f (l ++ [.mk k t []]) M := by
  refine ⟨h.deep, h.front, pxWfs_snoc h.last ?_, ?_⟩
  · rw [pxWf_mk, if_neg hk]; exact ⟨⟨s, hs⟩, rfl⟩
  · rw [pxCosts_app, pxCosts_cons, pxCosts_nil, pxCost_mk, if_neg hk, hs]
    have := h.cost
    simp only [Option.getD_some]
    omega
theorem RdInv.step {c : UInt8} {t r : List UInt8} {f f1 : List (List Px)} {l l1 : List Px} {M : Nat} (h : RdInv (c :: t) f l M) (hs : rdStep c t f l = .ok (r, f1, l1)) : RdInv r f1 l1 M := by
  have hsl := sxSort_lt c.toNat
  have hcs := h.cost
  rw [List.length_cons] at hcs
  have hmove : ∀ {u : List UInt8}, u.length ≤ t.length + 1 → RdInv u f l M := fun hu => ⟨h.deep, h.front, h.last, by omega⟩
  have z0 := tw_split (p := fun x => sxSign x.toNat) (c :: t)
  have z1 := tw_split (p := fun x => sxSign x.toNat) t
  have z2 := tw_split (p := fun x => sxQuo x.toNat) t
  have z3 := tw_split (p := fun x => x != 10) (c :: t)
  rw [List.length_cons] at z0 z3
  unfold rdStep at hs
  have hso : ∀ k, sxSort c.toNat = k → (match sxSort c.toNat with
    | 3 => (c :: t).takeWhile (fun x => sxSign x.toNat) = c :: t.takeWhile (fun x => sxSign x.toNat)
    | 4 => (c :: t).takeWhile (fun x => sxSign x.toNat) = c :: t.takeWhile (fun x => sxSign x.toNat)
    | _ => True) := fun k hk => by
    split
    · next e => rw [List.takeWhile_cons, if_pos (by unfold sxSign; rw [e]; rfl)]
    · next e => rw [List.takeWhile_cons, if_pos (by unfold sxSign; rw [e]; rfl)]
    · trivial
  have hso := hso _ rfl
  split at hs
  · cases hs
  · cases hs; exact hmove (by omega)
  · cases hs; exact hmove (by omega)
  · next e =>
    cases hs
    rw [e] at hso
    have hso : (c :: t).takeWhile (fun x => sxSign x.toNat) = c :: t.takeWhile (fun x => sxSign x.toNat) := hso
    rw [hso, List.length_cons] at z0
    refine h.push (s := (c :: t).takeWhile fun x => sxSign x.toNat) ?_ (by decide) (by rw [hso, List.length_cons, List.length_cons]; omega)
    have hpl : sxPlain (bz ((c :: t).takeWhile fun x => sxSign x.toNat)) = true := by
      unfold sxPlain
      have e2 : (bz ((c :: t).takeWhile fun x => sxSign x.toNat)).data.toList = c :: t.takeWhile fun x => sxSign x.toNat := by rw [← hso]; rfl
      rw [e2]
      simp only [e, beq_self_eq_true, Bool.true_and]
      unfold sxAll
      rw [show (bz ((c :: t).takeWhile fun x => sxSign x.toNat)).data.toList = (c :: t).takeWhile fun x => sxSign x.toNat from rfl]
      exact List.all_eq_true.2 (tw_all _)
    unfold pxSigns
    rw [if_pos rfl, if_pos hpl]
    rfl
  · next e =>
    split at hs
    · next hn =>
      cases hs
      rw [e] at hso
      have hso : (c :: t).takeWhile (fun x => sxSign x.toNat) = c :: t.takeWhile (fun x => sxSign x.toNat) := hso
      rw [hso, List.length_cons] at z0
      refine h.push (s := (c :: t).takeWhile fun x => sxSign x.toNat) ?_ (by decide) (by rw [hso, List.length_cons, List.length_cons]; omega)
      unfold pxSigns
      rw [if_neg (by decide), if_pos rfl, if_pos hn]
      rfl
    · cases hs
  · next e =>
    split at hs
    · cases hs
    · next d r' hd =>
      split at hs
      · next h5 =>
        cases hs
        rw [hd, List.length_cons] at z2
        have hq : sxAll sxQuo (bz (t.takeWhile fun x => sxQuo x.toNat)) = true := by
          unfold sxAll
          exact List.all_eq_true.2 (tw_all _)
        cases hpl : sxPlain (bz (t.takeWhile fun x => sxQuo x.toNat)) with
        | true => exact h.push (s := t.takeWhile fun x => sxQuo x.toNat) (by unfold pxSigns; rw [if_pos rfl, if_pos hpl]; rfl) (by decide) (by rw [List.length_cons]; omega)
        | false => exact h.push (s := 124 :: ((t.takeWhile fun x => sxQuo x.toNat) ++ [124])) (by unfold pxSigns; rw [if_pos rfl, if_neg (by rw [hpl]; simp), if_pos hq]; rfl) (by decide) (by simp; omega)
      · cases hs
  · next e =>
    split at hs
    · cases hs
    · next hn =>
      cases hs
      refine h.push (s := 58 :: t.takeWhile fun x => sxSign x.toNat) ?_ (by decide) (by rw [List.length_cons, List.length_cons]; omega)
      have hk : sxKey (bz (t.takeWhile fun x => sxSign x.toNat)) = true := by
        unfold sxKey sxAll
        rw [show (bz (t.takeWhile fun x => sxSign x.toNat)).data.toList = t.takeWhile fun x => sxSign x.toNat from rfl]
        rw [Bool.and_eq_true]
        exact ⟨by simpa using hn, List.all_eq_true.2 (tw_all _)⟩
      unfold pxSigns
      rw [if_neg (by decide), if_neg (by decide), if_pos rfl, if_pos hk]
      rfl
  · next e =>
    split at hs
    · cases hs
    · next hn =>
      cases hs
      have hd := h.deep
      refine ⟨by simp; omega, fun i hi => ?_, by rw [pxWfs_nil]; trivial, ?_⟩
      · by_cases hil : i < f.length
        · rw [List.getElem_append_left hil]; exact h.front i hil
        · have : i = f.length := by simp at hi; omega
          subst this
          simp only [List.getElem_concat_length]
          exact h.last
      · simp [pxCosts_nil]
        omega
  · split at hs
    · cases hs
    · next y hy =>
      cases hs
      rcases List.eq_nil_or_concat f with rfl | ⟨f0, z, rfl⟩
      · cases hy
      · rw [List.concat_eq_append] at *
        simp at hy
        subst hy
        have hd := h.deep
        have hla := h.last
        rw [List.length_append, List.length_singleton] at hd hla
        rw [List.dropLast_concat]
        refine ⟨by omega, fun i hi => ?_, ?_, ?_⟩
        · have := h.front i (by simp; omega)
          rwa [List.getElem_append_left hi] at this
        · refine pxWfs_snoc ?_ ?_
          · have := h.front f0.length (by simp)
            simpa using this
          · rw [pxWf_mk, if_pos rfl]
            exact ⟨rfl, by omega, hla⟩
        · rw [pxCosts_app, pxCosts_cons, pxCosts_nil, pxCost_mk, if_pos rfl]
          simp at hcs
          omega
theorem RdInv.run {x : List UInt8} {f f2 : List (List Px)} {l l2 : List Px} {M : Nat} (hr : Rd x f l f2 l2) (h : RdInv x f l M) : RdInv [] f2 l2 M := by
  induction hr with
  | nil => exact h
  | step hs _ ih => exact ih (h.step hs)
/-- what is read can be printed -/
theorem read_wf {x : List UInt8} {P : List Px} (h : Rd x [] [] [] P) : ∀ p ∈ P, pxWf 0 p ∧ pxCost p ≤ 2 * x.length := by
  have h0 : RdInv x [] [] (2 * x.length) := ⟨by simp, fun i h => absurd h (by simp), by rw [pxWfs_nil]; trivial, by simp [pxCosts_nil]⟩
  have h1 := h0.run h
  intro p hp
  refine ⟨pxWfs_mem h1.last p hp, ?_⟩
  have := pxCosts_mem p hp
  have := h1.cost
  simp at this
  omega
theorem read_len {x : List UInt8} {P : List Px} (h : Rd x [] [] [] P) : P.length ≤ 2 * x.length := by
  have h0 : RdInv x [] [] (2 * x.length) := ⟨by simp, fun i h => absurd h (by simp), by rw [pxWfs_nil]; trivial, by simp [pxCosts_nil]⟩
  have h1 := (h0.run h).cost
  have := costs_len P
  simp at h1
  omega
/-- what Print answers is read as it was -/
theorem read_back {p : Px} {y : Wr} (h : wrExpr p 0 wrStart = some y) : Rd y.out [] [] [] [p] := by
  have h1 := (wrExpr_out p 0 wrStart y h).1
  have h2 := Rd_px p 0 wrStart y [] [] [] [] [p] h rfl (fun c r e => by cases e) (.nil _ _)
  rw [h1]
  simpa [wrStart] using h2
end Go.Proofs.Ytcpkejonpnmljaa
/- elenchuslaw03.SexpAgain. -/
namespace Go.Proofs.Ytcpkejonpnmljaa
open Go.RowKit

theorem Below.goS {u w w' : World} (hb : Below w.heap.size w w') (h : Below u.heap.size u w) : Below u.heap.size u w' := h.trans (hb.mono h.size)
theorem run_err {s : ByteArray} : ∀ (n a : Nat) (f : List Lp) (l : Lp) (p er : Nat), sxRun s n a f l = .error (p, er) → er ≠ 0
  | 0, _, _, _, _, _, h => by cases h
  | n + 1, a, f, l, p, er, h => by
    unfold sxRun at h
    split at h
    · cases hst : sxStep s a f l with
      | error e =>
        rw [hst] at h
        obtain ⟨p', er'⟩ := e
        cases h
        exact sxStep_err hst
      | ok r => obtain ⟨a', f', l'⟩ := r; rw [hst] at h; exact run_err n a' f' l' p er h
    · cases h
def NilOk (v : Value) : Prop := ∀ n c, v = .slice none n c → c = 0
theorem RowAt.nilOk {w : World} {D : Nat → Prop} {v : Value} {l : List Ex} (h : RowAt w D v l) : NilOk v := by
  intro n c e
  cases h with
  | nil => cases e; rfl
  | row => cases e
/-- what Read answers: expressions that read as P, or none -/
def RRead (P : Option (List Px)) (w : World) (e : Ending) (w' : World) : Prop := Below w.heap.size w w' ∧
  match P with
  | none => ∃ p er : Nat, er ≠ 0 ∧ e = .returned (.tuple #[.slice none 0 0, .int .i64 (p : Nat), .int .i64 (er : Nat)])
  | some l => ∃ v, e = .returned (.tuple #[v, .int .i64 0, .int .i64 0]) ∧ PxRow w' w'.heap.size v l ∧ NilOk v
/-- what a text reads as -/
def pxRead (s : ByteArray) : Option (List Px) :=
  match sxRun s (s.size + 1) 0 [] (0, []) with
  | .ok ([], l) => some (pxL l.2)
  | _ => none
theorem Read_px (s : ByteArray) (w : World) (hs : s.size ≤ 65536) : Calls Try.prog 10 #[.string s] w (RRead (pxRead s) w) := by
  refine (Read_any s w hs).mono fun e w' h => ?_
  unfold pxRead
  cases hr : sxRun s (s.size + 1) 0 [] (0, []) with
  | error r =>
    obtain ⟨p, er⟩ := r
    rw [hr] at h
    exact ⟨h.2, p, er, run_err _ _ _ _ _ _ hr, h.1⟩
  | ok r =>
    obtain ⟨f, l⟩ := r
    rw [hr] at h
    cases f with
    | nil =>
      unfold RAll at h
      simp only [if_true] at h
      obtain ⟨v, h1, h2, h3⟩ := h
      exact ⟨h3, v, h1, h2.px, h2.nilOk⟩
    | cons x f =>
      unfold RAll at h
      simp only [reduceCtorEq, if_false] at h
      exact ⟨h.2, l.1, 3, by decide, h.1⟩
theorem pxRead_some {s : ByteArray} {P : List Px} (h : pxRead s = some P) : Rd s.data.toList [] [] [] P := by
  unfold pxRead at h
  split at h
  · next l hr => injection h with h; rw [← h]; exact read_Rd hr
  · cases h
theorem pxRead_of {s : ByteArray} {P : List Px} (h : Rd s.data.toList [] [] [] P) : pxRead s = some P := by
  obtain ⟨L, h1, h2⟩ := Rd_read h
  unfold pxRead
  rw [h1]
  simp only
  rw [h2]
/-- what is read of a short text can be printed, and is read again as it was -/
theorem again_px {s : ByteArray} {P : List Px} (hs : s.size ≤ 5000) (h : pxRead s = some P) : ∀ p ∈ P, pxSmall p ∧ ∃ y, wrExpr p 0 wrStart = some y ∧ y.out.length ≤ 20000 ∧ pxRead (bz y.out) = some [p] := by
  intro p hp
  have hr := pxRead_some h
  obtain ⟨h1, h2⟩ := read_wf hr p hp
  have hl : s.data.toList.length = s.size := Array.length_toList
  rw [hl] at h2
  obtain ⟨y, hy, -⟩ := wr_of_wf p 0 wrStart h1 (show pxCost p ≤ 65536 by omega)
  refine ⟨small_of_wf p 0 h1 (by omega), y, hy, ?_, pxRead_of (read_back hy)⟩
  have := (wrExpr_out p 0 wrStart y hy).1
  have h3 := txt_le p
  rw [this]
  simp [wrStart]
  omega

set_option maxRecDepth 100000 in
set_option maxHeartbeats 6400000 in
theorem lawAgain_any (s : ByteArray) (w : World) (hs : s.size ≤ 9223372036854775807) : Calls Try.prog 6 #[.string s] w (RBool true w) := by
  have Hf := hid (fixed3_any w)
  by_cases h5 : s.size ≤ 5000
  · have h5' : decide ((5000 : Int) < (s.size : Int)) = false := by simp; omega
    have hrd := fun W => Read_px s W (by omega)
    have hag := fun P => again_px (s := s) (P := P) h5
    have hlen : ∀ P, pxRead s = some P → P.length ≤ 10000 := fun P h => by
      have := read_len (pxRead_some h)
      have hl : s.data.toList.length = s.size := Array.length_toList
      omega
    generalize pxRead s = R at *
    have Hrd := hid hrd; have Hag := hid hag; have Hlen := hid hlen
    clear hrd hag hlen
    go_enter Try.func6, Try.ntmps6
    go_wp2_with fail
    refine Hf.out.mono ?_
    rintro e w1 ⟨rfl, hb1⟩
    have HB1 := hid hb1
    clear hb1
    go_wp2_with fail
    refine (Hrd.out _).mono ?_
    intro e w2 h2
    cases R with
    | none =>
      obtain ⟨hb2, p, er, her, rfl⟩ := h2
      have HB2 := hid (HB1.out.trans (hb2.mono HB1.out.size))
      have her' : (((er : Nat) : Int) != 0) = true := by simp; omega
      clear hb2
      go_wp2_with fail
      go_ret
      exact ⟨rfl, HB2.out⟩
    | some P =>
      obtain ⟨hb2, v, rfl, hrow, -⟩ := h2
      obtain ⟨pv, cv, rfl⟩ := hrow.form
      have HB2 := hid (HB1.out.trans (hb2.mono HB1.out.size)); have Hrow := hid hrow
      have Hag := hid (Hag.out P rfl)
      obtain ⟨n, hn⟩ : ∃ n, n = P.length := ⟨_, rfl⟩
      have hnl : n ≤ 10000 := by have := Hlen.out P rfl; omega
      rw [← hn] at Hrow ⊢
      have Hn := hid hn
      clear hb2 hrow Hrd Hf hn
      go_wp2_with fail
      go_loopw [31] (fun i wr => ∃ j : Nat, j ≤ n ∧ i = .int .i64 (j : Nat) ∧ Hid (Below w2.heap.size w2 wr)) (fun i _ => n - (RowKit.intOf i).toNat)
      case atStart => exact ⟨0, Nat.zero_le _, rfl, Below.refl _ _⟩
      case round =>
        obtain ⟨j, hj, rfl, hbr⟩ := hrel
        by_cases hlt : j < n
        · have hlt' : (j : Int) < (n : Int) := by omega
          have hlp : j < P.length := by have := Hn.out; omega
          obtain ⟨rb, off, ai, vi, hpp, hrb, k0, k1, k2, k3, krow⟩ := (Hrow.out.stay hbr.out).at j hlp
          subst hpp
          have kr := krow
          obtain ⟨pi, ci, rfl⟩ := kr.form
          obtain ⟨hsm, y, hy, hyl, hback⟩ := Hag.out (P[j]'hlp) (List.getElem_mem hlp)
          have hprint := fun W hr => Print_any (P[j]'hlp) ai (.slice pi (P[j]'hlp).parts.length ci) W hsm hr
          rw [hy] at hprint
          have hread := fun W => Read_px (bz y.out) W (by rw [bz_size]; omega)
          rw [hback] at hread
          have hsame := same_any (P[j]'hlp) hsm
          unfold SameP at hsame
          generalize P[j]'hlp = X at *
          obtain ⟨K, T, ps⟩ := X
          simp only [Px.kind, Px.text, Px.parts] at *
          have Hprint := hid hprint; have Hread := hid hread; have Hsame := hid hsame; have Hkrow := hid krow
          clear hprint hread hsame krow kr hsm hy hback
          go_upto_region 11 with fail
          generalize hW : World.alloc wr _ = W3
          have hb3 : Below wr.heap.size wr W3 := by rw [← hW]; exact below1 _ _
          have hz3 : wr.heap.size < W3.heap.size := by rw [← hW]; simp
          have hbx : W3.heap[wr.heap.size]? = some (.cells #[.int .i64 K, .int .i64 ai, .string T, .slice pi ps.length ci] 30 (0, 0)) := by rw [← hW]; exact heap_alloc_new wr _
          have g0 := cell_of_row W3 _ 0 _ _ (0, 0) hbx; have g1 := cell_of_row W3 _ 1 _ _ (0, 0) hbx; have g2 := cell_of_row W3 _ 2 _ _ (0, 0) hbx; have g3 := cell_of_row W3 _ 3 _ _ (0, 0) hbx
          have hkr3 := (Hkrow.out.stay (hb3.mono hbr.out.size))
          have hpr := Hprint.out W3 (hkr3.mono (Nat.le_trans hbr.out.size hb3.size))
          have Hpr := hid hpr; have HB3 := hid (hbr.out.trans (hb3.mono hbr.out.size)); have Hbx := hid hbx; have Hkr3 := hid hkr3
          clear hW hb3 hbx hkr3 hpr Hprint Hkrow
          go_wp2_with fail
          refine Hpr.out.mono ?_
          rintro e w4 ⟨hb4, rfl⟩
          have HB4 := hid hb4
          clear hb4 g0 g1 g2 g3
          go_wp2_with fail
          refine (Hread.out w4).mono ?_
          rintro e w5 ⟨hb5, v5, rfl, hrow5, -⟩
          obtain ⟨p5, c5, rfl⟩ := hrow5.form
          obtain ⟨rb5, off5, a5, v5, hp5, hrb5, m0, m1, m2, m3, mrow⟩ := hrow5.at 0 (by simp)
          subst hp5
          have mr := mrow
          obtain ⟨p6, c6, rfl⟩ := mr.form
          simp only [List.getElem_cons_zero, Px.kind, Px.text, Px.parts, Nat.zero_mul, Nat.add_zero, List.length_cons, List.length_nil, Nat.zero_add] at m0 m1 m2 m3 mrow
          have HB5 := hid (HB4.out.trans (hb5.mono HB4.out.size))
          have hbx5 := (HB5.out.block _ (lt_of_heap Hbx.out)).trans Hbx.out
          have g0 := cell_of_row w5 _ 0 _ _ (0, 0) hbx5; have g1 := cell_of_row w5 _ 1 _ _ (0, 0) hbx5; have g2 := cell_of_row w5 _ 2 _ _ (0, 0) hbx5; have g3 := cell_of_row w5 _ 3 _ _ (0, 0) hbx5
          have hz5 : wr.heap.size < w5.heap.size := Nat.lt_of_lt_of_le hz3 HB5.out.size
          have hz25 : w2.heap.size ≤ w5.heap.size := Nat.le_trans hbr.out.size (Nat.le_of_lt hz5)
          have hcall : ∀ W, Below w5.heap.size w5 W → Calls Try.prog 14 #[.agg #[.int .i64 K, .int .i64 a5, .string T, .slice p6 ps.length c6], .agg #[.int .i64 K, .int .i64 ai, .string T, .slice pi ps.length ci], .bool false] W fun e w' => e = .returned (.bool true) ∧ Below W.heap.size W w' := fun W hb =>
            Hsame.out w5.heap.size a5 ai _ _ W hb.size (mrow.stay hb) (((Hkr3.out.stay (HB5.out.mono (Nat.le_trans hbr.out.size (Nat.le_of_lt hz3)))).mono hz25).stay hb)
          have HS : Hid (∀ w', Below w5.heap.size w5 w' → w'.cell? ⟨wr.heap.size, 0, none⟩ = some (.int .i64 K) ∧ w'.cell? ⟨wr.heap.size, 1, none⟩ = some (.int .i64 ai) ∧ w'.cell? ⟨wr.heap.size, 2, none⟩ = some (.string T) ∧ w'.cell? ⟨wr.heap.size, 3, none⟩ = some (.slice pi ps.length ci) ∧
              w'.cell? ⟨rb5, off5, none⟩ = some (.int .i64 K) ∧ w'.cell? ⟨rb5, off5 + 1, none⟩ = some (.int .i64 a5) ∧ w'.cell? ⟨rb5, off5 + 2, none⟩ = some (.string T) ∧ w'.cell? ⟨rb5, off5 + 3, none⟩ = some (.slice p6 ps.length c6) ∧ Below w5.heap.size w5 w') := fun w' hb =>
            ⟨(hb.cell (p := ⟨wr.heap.size, 0, none⟩) hz5).trans g0, (hb.cell (p := ⟨wr.heap.size, 1, none⟩) hz5).trans g1, (hb.cell (p := ⟨wr.heap.size, 2, none⟩) hz5).trans g2, (hb.cell (p := ⟨wr.heap.size, 3, none⟩) hz5).trans g3,
             (hb.cell (p := ⟨rb5, off5, none⟩) hrb5).trans m0, (hb.cell (p := ⟨rb5, off5 + 1, none⟩) hrb5).trans m1, (hb.cell (p := ⟨rb5, off5 + 2, none⟩) hrb5).trans m2, (hb.cell (p := ⟨rb5, off5 + 3, none⟩) hrb5).trans m3, hb⟩
          have Hcall := hid hcall
          have HBr := hid (HB3.out.trans ((HB5.out.mono (Nat.le_trans hbr.out.size (Nat.le_of_lt hz3)))))
          clear hcall hb5 hrow5 hbx5 mrow mr Hread Hsame Hkr3 Hpr Hbx HB3 HB4 g0 g1 g2 g3 m0 m1 m2 m3 k0 k1 k2 k3
          go_upto_region 13 with fail
          go_region_held3 (fun w' => w'.cell? ⟨wr.heap.size, 0, none⟩ = some (.int .i64 K) ∧ w'.cell? ⟨wr.heap.size, 1, none⟩ = some (.int .i64 ai) ∧ w'.cell? ⟨wr.heap.size, 2, none⟩ = some (.string T) ∧ w'.cell? ⟨wr.heap.size, 3, none⟩ = some (.slice pi ps.length ci) ∧
              w'.cell? ⟨rb5, off5, none⟩ = some (.int .i64 K) ∧ w'.cell? ⟨rb5, off5 + 1, none⟩ = some (.int .i64 a5) ∧ w'.cell? ⟨rb5, off5 + 2, none⟩ = some (.string T) ∧ w'.cell? ⟨rb5, off5 + 3, none⟩ = some (.slice p6 ps.length c6) ∧ Below w5.heap.size w5 w')
            (first | exact HS.out _ (Below.drew (Below.refl _ _)) | (refine HS.out _ (Below.goS hb ?_); go_split_ands; assumption))
            (first
              | (go_at_call 14; refine (Hcall.out _ (by go_split_ands; assumption)).mono ?_; rintro e w6 ⟨rfl, hb⟩))
          all_goals
            have HB6 := hid (HBr.out.trans ((Below.goS hb (Below.drew (Below.refl _ _))).mono hz25))
            clear hb
            go_split_ands
            go_wp2_with fail
            go_roundw
            case rel => exact ⟨j + 1, by omega, by go_num, HB6⟩
            case measure => (simp [RowKit.intOf] <;> omega)
        · obtain rfl : j = n := by omega
          have HBr := hid (HB2.out.trans (hbr.out.mono HB2.out.size))
          go_wp2_with fail
          go_ret
          exact ⟨rfl, HBr.out⟩
  · have h5' : (5000 : Int) < (s.size : Int) := by omega
    go_enter Try.func6, Try.ntmps6
    go_wp2_with fail
    refine Hf.out.mono ?_
    rintro e w1 ⟨rfl, hb1⟩
    go_wp2_with fail
    go_ret
    exact ⟨rfl, hb1⟩
end Go.Proofs.Ytcpkejonpnmljaa
/- Two texts on lines of their own are read as both; a row of expressions by its cells. -/
namespace Go.Proofs.Ytcpkejonpnmljaa
open Go.RowKit

theorem tw_ext {q : UInt8 → Bool} {d : UInt8} (hd : q d = false) : ∀ (l u : List UInt8), (l ++ d :: u).takeWhile q = l.takeWhile q ∧ (l ++ d :: u).dropWhile q = l.dropWhile q ++ d :: u
  | [], u => by simp [List.takeWhile_cons, List.dropWhile_cons, hd]
  | a :: l, u => by
    obtain ⟨h1, h2⟩ := tw_ext hd l u
    by_cases ha : q a = true
    · simp [List.takeWhile_cons, List.dropWhile_cons, ha, h1, h2]
    · simp [List.takeWhile_cons, List.dropWhile_cons, ha]
theorem tw_in {q : UInt8 → Bool} {d : UInt8} {r : List UInt8} : ∀ (l v : List UInt8), l.dropWhile q = d :: r → (l ++ v).takeWhile q = l.takeWhile q ∧ (l ++ v).dropWhile q = d :: (r ++ v)
  | [], v, h => by cases h
  | a :: l, v, h => by
    by_cases ha : q a = true
    · rw [List.dropWhile_cons, if_pos ha] at h
      obtain ⟨h1, h2⟩ := tw_in l v h
      simp [List.takeWhile_cons, List.dropWhile_cons, ha, h1, h2]
    · rw [List.dropWhile_cons, if_neg ha] at h
      injection h with h3 h4
      subst h3 h4
      simp [List.takeWhile_cons, List.dropWhile_cons, ha]
theorem rdStep_ext {c : UInt8} {t r : List UInt8} {f f1 : List (List Px)} {l l1 : List Px} (u : List UInt8) (h : rdStep c t f l = .ok (r, f1, l1)) : rdStep c (t ++ 10 :: u) f l = .ok (r ++ 10 :: u, f1, l1) := by
  have s10 : sxSign (10 : UInt8).toNat = false := by decide +kernel
  obtain ⟨a1, a2⟩ := tw_ext (q := fun x => sxSign x.toNat) s10 (c :: t) u
  obtain ⟨b1, b2⟩ := tw_ext (q := fun x => sxSign x.toNat) s10 t u
  obtain ⟨c1, c2⟩ := tw_ext (q := fun x => x != 10) (d := 10) (by decide) (c :: t) u
  rw [List.cons_append] at a1 a2 c1 c2
  unfold rdStep at h ⊢
  split at h
  · cases h
  · cases h; rfl
  · cases h; rw [c2]
  · cases h; rw [a1, a2]
  · rw [a1, a2]
    split at h
    · next hn => cases h; rw [if_pos hn]
    · cases h
  · split at h
    · cases h
    · next d r' hd =>
      obtain ⟨d1, d2⟩ := tw_in t (10 :: u) hd
      rw [d1, d2]
      split at h
      · next h5 => cases h; simp only; rw [if_pos h5]
      · cases h
  · rw [b1, b2]
    split at h
    · cases h
    · next hn => cases h; rw [if_neg hn]
  · split at h
    · cases h
    · next hn => cases h; rw [if_neg hn]
  · split at h
    · cases h
    · next y hy => cases h; rfl
theorem Rd.join {x u : List UInt8} {f f1 f2 : List (List Px)} {l l1 l2 : List Px} (h : Rd x f l f1 l1) (h2 : Rd (10 :: u) f1 l1 f2 l2) : Rd (x ++ 10 :: u) f l f2 l2 := by
  induction h with
  | nil => exact h2
  | step hs _ ih => exact .step (rdStep_ext u hs) (ih h2)
/-- more expressions ahead, outside all lists -/
def preF (P : List Px) : List (List Px) → List (List Px)
  | [] => []
  | y :: f => (P ++ y) :: f
def preL (P : List Px) (f : List (List Px)) (l : List Px) : List Px := if f = [] then P ++ l else l
theorem preL_snoc (P : List Px) (f : List (List Px)) (l m : List Px) : preL P f (l ++ m) = preL P f l ++ m := by unfold preL; split <;> simp
theorem rdStep_pre {c : UInt8} {t r : List UInt8} {f f1 : List (List Px)} {l l1 : List Px} (P : List Px) (h : rdStep c t f l = .ok (r, f1, l1)) : rdStep c t (preF P f) (preL P f l) = .ok (r, preF P f1, preL P f1 l1) := by
  unfold rdStep at h ⊢
  split at h
  · cases h
  · cases h; rfl
  · cases h; rfl
  · cases h; rw [preL_snoc]
  · split at h
    · next hn => cases h; rw [if_pos hn, preL_snoc]
    · cases h
  · split at h
    · cases h
    · next d r' hd =>
      split at h
      · next h5 => cases h; rw [if_pos h5, preL_snoc]
      · cases h
  · split at h
    · cases h
    · next hn => cases h; rw [if_neg hn, preL_snoc]
  · split at h
    · cases h
    · next hn =>
      cases h
      cases f with
      | nil => simp [preF, preL]
      | cons y f =>
        have e : (preF P (y :: f)).length ≠ 64 := by simpa [preF] using hn
        rw [if_neg e]
        simp [preF, preL]
  · split at h
    · cases h
    · next y hy =>
      cases h
      rcases List.eq_nil_or_concat f with rfl | ⟨f0, z, rfl⟩
      · cases hy
      · rw [List.concat_eq_append] at *
        simp at hy
        subst hy
        cases f0 with
        | nil => simp [preF, preL]
        | cons a f0 =>
          have : ((P ++ a) :: (f0 ++ [z])).getLast? = some z := by
            show (((P ++ a) :: f0) ++ [z]).getLast? = _
            exact List.getLast?_concat
          simp only [List.cons_append, preF, this]
          have e2 : ((P ++ a) :: (f0 ++ [z])).dropLast = (P ++ a) :: f0 := by show (((P ++ a) :: f0) ++ [z]).dropLast = _; exact List.dropLast_concat
          have e3 : (a :: (f0 ++ [z])).dropLast = a :: f0 := by show ((a :: f0) ++ [z]).dropLast = _; exact List.dropLast_concat
          rw [e2, e3]
          simp [preF, preL]
theorem Rd.pre {x : List UInt8} {f f2 : List (List Px)} {l l2 : List Px} (P : List Px) (h : Rd x f l f2 l2) : Rd x (preF P f) (preL P f l) (preF P f2) (preL P f2 l2) := by
  induction h with
  | nil => exact .nil _ _
  | step hs _ ih => exact .step (rdStep_pre P hs) ih
theorem join_px {s t u : ByteArray} {P Q : List Px} (hs : pxRead s = some P) (ht : pxRead t = some Q) (hu : u.data.toList = s.data.toList ++ 10 :: t.data.toList) : pxRead u = some (P ++ Q) := by
  refine pxRead_of ?_
  rw [hu]
  have h1 := pxRead_some hs
  have h2 := (pxRead_some ht).pre P
  have e : ∀ m, preL P [] m = P ++ m := fun m => by unfold preL; rw [if_pos rfl]
  rw [e, e, List.append_nil] at h2
  have s10 : sxSort (10 : UInt8).toNat = 1 := by decide +kernel
  refine h1.join (.step (r := t.data.toList) (f1 := []) (l1 := P) ?_ h2)
  unfold rdStep
  rw [s10]
  rfl

/-- the cells of a row of expressions -/
inductive RowCells (w : World) (N : Nat) : List Value → List Px → Prop
  | nil : RowCells w N [] []
  | cons (a : Int) (v : Value) (p : Px) (xs : List Value) (l : List Px) (hp : PxRow w N v p.parts) (h : RowCells w N xs l) : RowCells w N (.int .i64 p.kind :: .int .i64 a :: .string p.text :: v :: xs) (p :: l)
theorem RowCells.len {w : World} {N : Nat} {xs : List Value} {l : List Px} (h : RowCells w N xs l) : xs.length = l.length * 4 := by
  induction h with
  | nil => rfl
  | cons a v p xs l hp _ ih => simp only [List.length_cons, ih]; omega
theorem RowCells.app {w : World} {N : Nat} {xs ys : List Value} {l m : List Px} (h : RowCells w N xs l) (h2 : RowCells w N ys m) : RowCells w N (xs ++ ys) (l ++ m) := by
  induction h with
  | nil => exact h2
  | cons a v p xs l hp _ ih => exact .cons a v p _ _ hp ih
theorem RowCells.stayC {w w' : World} {N : Nat} {xs : List Value} {l : List Px} (h : RowCells w N xs l) (hb : Below N w w') : RowCells w' N xs l := by
  induction h with
  | nil => exact .nil
  | cons a v p xs l hp _ ih => exact .cons a v p _ _ (hp.stay hb) ih
theorem PxRow.one {w : World} {N : Nat} {v : Value} {l : List Px} (h : PxRow w N v l) : v.oneCell' = true := by
  obtain ⟨p, c, rfl⟩ := h.form; rfl
theorem RowCells.one {w : World} {N : Nat} {xs : List Value} {l : List Px} (h : RowCells w N xs l) : ∀ u ∈ xs, u.oneCell' = true := by
  induction h with
  | nil => intro u hu; cases hu
  | cons a v p xs l hp _ ih =>
    intro u hu
    simp only [List.mem_cons] at hu
    rcases hu with rfl | rfl | rfl | rfl | hu
    · rfl
    · rfl
    · rfl
    · exact hp.one
    · exact ih u hu
theorem RowCells.atC {w : World} {N : Nat} {xs : List Value} {l : List Px} (h : RowCells w N xs l) : ∀ (i : Nat) (hi : i < l.length), ∃ a v, xs[i * 4]? = some (.int .i64 (l[i]'hi).kind) ∧ xs[i * 4 + 1]? = some (.int .i64 a) ∧ xs[i * 4 + 2]? = some (.string (l[i]'hi).text) ∧ xs[i * 4 + 3]? = some v ∧ PxRow w N v (l[i]'hi).parts := by
  induction h with
  | nil => intro i hi; exact absurd hi (by simp)
  | cons a v p xs l hp _ ih =>
    intro i hi
    cases i with
    | zero => exact ⟨a, v, rfl, rfl, rfl, rfl, hp⟩
    | succ i =>
      obtain ⟨a', v', h0, h1, h2, h3, h4⟩ := ih i (by simpa using hi)
      refine ⟨a', v', ?_, ?_, ?_, ?_, ?_⟩
      · rw [show (i + 1) * 4 = i * 4 + 1 + 1 + 1 + 1 by omega]; simpa using h0
      · rw [show (i + 1) * 4 + 1 = i * 4 + 1 + 1 + 1 + 1 + 1 by omega]; simpa using h1
      · rw [show (i + 1) * 4 + 2 = i * 4 + 2 + 1 + 1 + 1 + 1 by omega]; simpa using h2
      · rw [show (i + 1) * 4 + 3 = i * 4 + 3 + 1 + 1 + 1 + 1 by omega]; simpa using h3
      · simpa using h4
/-- a row's cells, from its slice -/
theorem PxRow.cells {w : World} {N n c : Nat} {ad : Addr} {l : List Px} (h : PxRow w N (.slice (some ad) n c) l) : ∃ xs, RowCells w N xs l ∧ ∀ j u, xs[j]? = some u → w.cell? (ad.add j) = some u := by
  cases h with
  | nil => exact ⟨[], .nil, fun j u hj => by cases hj⟩
  | row b off n c l ats vs hn hb h0 h1 h2 h3 hp =>
    have key : ∀ m i, i + m = l.length → ∃ xs, RowCells w N xs (l.drop i) ∧ ∀ j u, xs[j]? = some u → w.cell? ⟨b, off + i * 4 + j, none⟩ = some u := by
      intro m
      induction m with
      | zero => intro i hi; rw [List.drop_of_length_le (by omega)]; exact ⟨[], .nil, fun j u hj => by cases hj⟩
      | succ m ih =>
        intro i hi
        obtain ⟨xs, hx, hc⟩ := ih (i + 1) (by omega)
        have hil : i < l.length := by omega
        rw [List.drop_eq_getElem_cons hil]
        refine ⟨_, .cons (ats i) (vs i) (l[i]'hil) xs _ (hp i hil) hx, fun j u hj => ?_⟩
        match j, hj with
        | 0, hj => simp at hj; subst hj; exact h0 i hil
        | 1, hj => simp at hj; subst hj; exact h1 i hil
        | 2, hj => simp at hj; subst hj; exact h2 i hil
        | 3, hj => simp at hj; subst hj; exact h3 i hil
        | j + 4, hj =>
          have := hc j u (by simpa using hj)
          rw [show off + i * 4 + (j + 4) = off + (i + 1) * 4 + j by omega]
          exact this
    obtain ⟨xs, hx, hc⟩ := key l.length 0 (by omega)
    refine ⟨xs, by simpa using hx, fun j u hj => ?_⟩
    have := hc j u hj
    rw [Go.WideShapes.add_plain]
    simpa using this
end Go.Proofs.Ytcpkejonpnmljaa
/- elenchuslaw03.SexpJoins. -/
namespace Go.Proofs.Ytcpkejonpnmljaa
open Go.RowKit

section
variable {w : World} {ops : Array Oper} {rest : List Oper} {o : Oper} {a : Act} {Q : Exit → Act → World → Prop}
/-- 'append(v, x...)': v a row of expressions of the call's own, x whatever row of expressions -/
theorem wpList_append_row (hgd : o.guard = none) (s x : Operand) (ho : o.op = .call { callee := .builtin .append, args := #[s, x], argTypes := #[24, 24] })
    (base N : Nat) (v : Value) (n : Nat) (xs : List Value) (hs : a.eval s = v) (hown : w.ownsRow base 30 4 v n xs) (p : Option Addr) (m c : Nat) (l : List Px) (hx : a.eval x = .slice p m c)
    (hrow : PxRow w N (.slice p m c) l) (hnil : NilOk (.slice p m c)) (hlen : n + m ≤ 100000) (hbase : base ≤ w.heap.size)
    (h : ∀ v' w' ys, RowCells w N ys l → w'.ownsRow base 30 4 v' (n + m) (xs ++ ys) → Below base w w' → w.heap.size ≤ w'.heap.size → wpList Try.prog ops Q rest (a.put o.dst v') w') : wpList Try.prog ops Q (o :: rest) a w := by
  obtain ⟨i, hi, hz, hsz, hby⟩ := info_parts infoExpr
  have hm : m = l.length := by obtain ⟨_, _, e⟩ := hrow.form; injection e
  cases p with
  | none =>
    obtain rfl := hnil _ _ rfl
    have hl : l = [] ∧ m = 0 := by
      cases hrow with
      | nil => exact ⟨rfl, rfl⟩
    obtain ⟨rfl, rfl⟩ := hl
    exact wpList_append_own_none hgd s x 24 ho base 30 i 4 Try.underlying24 hi v n xs hs hown hx (h _ _ [] .nil (by rw [List.append_nil]; exact hown) (Below.refl _ _) (Nat.le_refl _))
  | some ad =>
    obtain ⟨ys, hy, hc⟩ := hrow.cells
    refine wpList_append_own w hgd s x 24 ho base 30 i _ 4 56 Try.underlying24 hi hz hsz hby rfl (by decide) v n xs hs hown ad m c ys hx (by rw [hy.len, hm]) hc hy.one (by unfold maxLen; omega) (by omega) hbase ?_
    intro v' w' h5 h6 _
    exact h v' w' ys hy h5 ((Below.refl _ _).grown h6 hbase fun k hk => (hown.lt k hk).1) h6.size
end

set_option maxRecDepth 100000 in
set_option maxHeartbeats 6400000 in
theorem lawJoins_any (s t : ByteArray) (w : World) (hs : s.size ≤ 9223372036854775807) (ht : t.size ≤ 9223372036854775807) : Calls Try.prog 7 #[.string s, .string t] w (RBool true w) := by
  have Hf := hid (fixed3_any w)
  by_cases h3 : s.size ≤ 3000
  · have h3' : decide ((3000 : Int) < (s.size : Int)) = false := by simp; omega
    by_cases h4 : t.size ≤ 3000
    · have h4' : decide ((3000 : Int) < (t.size : Int)) = false := by simp; omega
      have ad1 : ∀ w, (Op.stringOp .add s ⟨#[10]⟩).run Try.prog w = .ok (.string (s ++ ⟨#[10]⟩)) w := fun w => run_add _ _ _ w (by show s.size + 1 ≤ _; omega)
      have ad2 : ∀ w, (Op.stringOp .add (s ++ ⟨#[10]⟩) t).run Try.prog w = .ok (.string (s ++ ⟨#[10]⟩ ++ t)) w := fun w => run_add _ _ _ w (by rw [ByteArray.size_append]; show s.size + 1 + t.size ≤ _; omega)
      have hu : (s ++ ⟨#[10]⟩ ++ t).data.toList = s.data.toList ++ 10 :: t.data.toList := by simp
      have hz : (s ++ ⟨#[10]⟩ ++ t).size ≤ 6001 := by rw [ByteArray.size_append, ByteArray.size_append]; show s.size + 1 + t.size ≤ _; omega
      have hr1 := fun W => Read_px s W (by omega)
      have hr2 := fun W => Read_px t W (by omega)
      have hr3 := fun W => Read_px (s ++ ⟨#[10]⟩ ++ t) W (by omega)
      have hjn := fun P Q h1 h2 => join_px (P := P) (Q := Q) h1 h2 hu
      have hl1 : ∀ P, pxRead s = some P → P.length ≤ 6000 := fun P h => by
        have := read_len (pxRead_some h)
        have hl : s.data.toList.length = s.size := Array.length_toList
        omega
      have hl2 : ∀ P, pxRead t = some P → P.length ≤ 6000 := fun P h => by
        have := read_len (pxRead_some h)
        have hl : t.data.toList.length = t.size := Array.length_toList
        omega
      have hsm : ∀ P, pxRead (s ++ ⟨#[10]⟩ ++ t) = some P → ∀ p ∈ P, pxSmall p := fun P h p hp => by
        obtain ⟨h1, h2⟩ := read_wf (pxRead_some h) p hp
        have hl : (s ++ ⟨#[10]⟩ ++ t).data.toList.length = (s ++ ⟨#[10]⟩ ++ t).size := Array.length_toList
        rw [hl] at h2
        exact small_of_wf p 0 h1 (by omega)
      generalize (s ++ ⟨#[10]⟩ ++ t) = U at *
      generalize (s ++ ⟨#[10]⟩) = V at *
      generalize pxRead s = R1 at *
      generalize pxRead t = R2 at *
      have Hr1 := hid hr1; have Hr2 := hid hr2; have Hr3 := hid hr3; have Hjn := hid hjn; have Hl1 := hid hl1; have Hl2 := hid hl2; have Hsm := hid hsm
      clear hr1 hr2 hr3 hjn hl1 hl2 hsm hu hz
      go_enter Try.func7, Try.ntmps7
      go_wp2_with fail
      refine Hf.out.mono ?_
      rintro e w1 ⟨rfl, hb1⟩
      have HB1 := hid hb1
      clear hb1
      go_wp2_with fail
      refine (Hr1.out _).mono ?_
      intro e w2 h2
      cases R1 with
      | none =>
        obtain ⟨hb2, p, er, her, rfl⟩ := h2
        have HB2 := hid (HB1.out.trans (hb2.mono HB1.out.size))
        have her' : (((er : Nat) : Int) != 0) = true := by simp; omega
        clear hb2
        go_wp2_with fail
        refine (Hr2.out _).mono ?_
        intro e w3 h5
        have HB3 := hid (HB2.out.trans (h5.1.mono HB2.out.size))
        cases R2 with
        | none =>
          obtain ⟨-, p', er', -, rfl⟩ := h5
          go_wp2_with fail
          go_ret
          exact ⟨rfl, HB3.out⟩
        | some P2 =>
          obtain ⟨-, v, rfl, -⟩ := h5
          go_wp2_with fail
          go_ret
          exact ⟨rfl, HB3.out⟩
      | some P =>
        obtain ⟨hb2, v, rfl, hrow, hnil⟩ := h2
        obtain ⟨pv, cv, rfl⟩ := hrow.form
        have HB2 := hid (HB1.out.trans (hb2.mono HB1.out.size)); have Hrow := hid hrow; have Hnil := hid hnil
        clear hb2 hrow hnil
        go_wp2_with fail
        refine (Hr2.out _).mono ?_
        intro e w3 h5
        cases R2 with
        | none =>
          obtain ⟨hb3, p', er, her, rfl⟩ := h5
          have HB3 := hid (HB2.out.trans (hb3.mono HB2.out.size))
          have her' : (((er : Nat) : Int) != 0) = true := by simp; omega
          clear hb3
          go_wp2_with fail
          go_ret
          exact ⟨rfl, HB3.out⟩
        | some P2 =>
          obtain ⟨hb3, v2, rfl, hrow2, hnil2⟩ := h5
          obtain ⟨pv2, cv2, rfl⟩ := hrow2.form
          have HB3 := hid (HB2.out.trans (hb3.mono HB2.out.size)); have Hrow2 := hid hrow2; have Hnil2 := hid hnil2
          have HB23 := hid hb3
          have Hl1 := hid (Hl1.out P rfl); have Hl2 := hid (Hl2.out P2 rfl)
          have hj := Hjn.out P P2 rfl rfl
          rw [hj] at Hr3
          have Hsm := hid (Hsm.out _ hj)
          clear hb3 hrow2 hnil2 hj Hjn
          go_wp2_with fail
          refine (Hr3.out _).mono ?_
          rintro e w4 ⟨hb4, v3, rfl, hrow3, -⟩
          obtain ⟨pv3, cv3, rfl⟩ := hrow3.form
          have HB4 := hid (HB3.out.trans (hb4.mono HB3.out.size)); have Hrow3 := hid hrow3
          have Hr1' := hid ((Hrow.out.stay ((HB23.out.trans (hb4.mono HB23.out.size)))).mono (Nat.le_trans HB23.out.size hb4.size))
          have Hr2' := hid ((Hrow2.out.stay hb4).mono hb4.size)
          clear hb4 hrow3 Hrow Hrow2 HB23 Hr1 Hr2 Hr3
          rw [List.length_append]
          obtain ⟨n, hn⟩ : ∃ n, n = P.length := ⟨_, rfl⟩
          obtain ⟨m, hm⟩ : ∃ m, m = P2.length := ⟨_, rfl⟩
          have n6 : (n : Int) ≤ 6000 := by have := Hl1.out; omega
          have m6 : (m : Int) ≤ 6000 := by have := Hl2.out; omega
          have hnm : ((n + m : Nat) : Int) = (n : Int) + (m : Int) := by omega
          rw [← hn, ← hm]
          rw [← hn] at Hnil Hr1'
          rw [← hm] at Hnil2 Hr2'
          rw [List.length_append, ← hn, ← hm] at Hrow3
          have Hn := hid hn; have Hm := hid hm
          clear hn hm
          go_wp2_with fail
          go_loopw [67] (fun i wr => ∃ j : Nat, j ≤ n + m ∧ i = .int .i64 (j : Nat) ∧ Hid (Below w4.heap.size w4 wr)) (fun i _ => n + m - (RowKit.intOf i).toNat)
          case atStart => exact ⟨0, Nat.zero_le _, rfl, Below.refl _ _⟩
          case round =>
            obtain ⟨j, hj, rfl, hbr⟩ := hrel
            by_cases hlt : j < n + m
            · have hlt' : (j : Int) < ((n + m : Nat) : Int) := by omega
              have hlt2 : (j : Int) < (n : Int) + (m : Int) := by omega
              go_upto_region 15 with fail
              have hzr := hbr.out.size
              have hb0 := below1 wr (.cells #[] 30)
              go_wp2_with (first | (at_builtin; refine wpList_append_row rfl _ _ rfl wr.heap.size w4.heap.size _ 0 [] rfl ?o1 pv n cv P rfl ?r1 Hnil.out ?l1 ?b1 ?_))
              case o1 => exact ⟨rfl, .inr ⟨wr.heap.size, 0, #[], rfl, Nat.le_refl _, heap_alloc_new wr _, Nat.le_refl _, by simp [maxLen], rfl, rfl⟩⟩
              case r1 => exact Hr1'.out.stay (hbr.out.trans (hb0.mono hzr))
              case l1 => omega
              case b1 => simp
              intro va wa ys1 hy1 ho1 hba hsa
              have HBa := hid (hb0.trans hba)
              have Ho1 := hid ho1; have Hy1 := hid hy1; have Hba := hid hba
              clear hba ho1 hy1
              go_wp2_with (first | (at_builtin; refine wpList_append_row rfl _ _ rfl wr.heap.size w4.heap.size _ n ys1 rfl Ho1.out pv2 m cv2 P2 rfl ?r2 Hnil2.out ?l2 ?b2 ?_))
              case r2 => exact Hr2'.out.stay (hbr.out.trans (HBa.out.mono hzr))
              case l2 => omega
              case b2 => exact HBa.out.size
              intro vb wb ys2 hy2 ho2 hbb hsb
              have HBb := hid (HBa.out.trans hbb)
              have hrc : RowCells wb w4.heap.size (ys1 ++ ys2) (P ++ P2) := RowCells.app (Hy1.out.stayC ((Hba.out.trans hbb).mono hzr)) (hy2.stayC (hbb.mono hzr))
              have jp : j < (P ++ P2).length := by rw [List.length_append, ← Hn.out, ← Hm.out]; exact hlt
              obtain ⟨g, cap, rfl⟩ : ∃ g cap, vb = .slice (some ⟨g, 0, none⟩) (n + m) cap := by
                rcases ho2.2 with ⟨_, h0⟩ | ⟨g, cap, cur, hv, _⟩
                · omega
                · exact ⟨g, cap, hv⟩
              obtain ⟨a3, vi, c0, c1, c2, c3, krow⟩ := hrc.atC j jp
              have kr := krow
              obtain ⟨pi, ci, rfl⟩ := kr.form
              have q0 := (ho2.cellAt (j * 4) (by omega)).trans c0
              have q1 := (ho2.cellAt (j * 4 + 1) (by omega)).trans c1
              have q2 := (ho2.cellAt (j * 4 + 2) (by omega)).trans c2
              have q3 := (ho2.cellAt (j * 4 + 3) (by omega)).trans c3
              obtain ⟨rb, off, a4, vk, hp3, hrb, d0, d1, d2, d3, lrow⟩ := (Hrow3.out.stay (hbr.out.trans (HBb.out.mono hzr))).at j jp
              subst hp3
              have lr := lrow
              obtain ⟨pk, ck, rfl⟩ := lr.form
              have hsame := same_any ((P ++ P2)[j]'jp) (Hsm.out _ (List.getElem_mem jp))
              unfold SameP at hsame
              generalize (P ++ P2)[j]'jp = X at *
              obtain ⟨K, T, ps⟩ := X
              simp only [Px.kind, Px.text, Px.parts] at *
              have Hsame := hid hsame; have Hkrow := hid krow; have Hlrow := hid lrow
              have Hd : Hid (wb.cell? ⟨rb, off + j * 4, none⟩ = some (.int .i64 K) ∧ wb.cell? ⟨rb, off + j * 4 + 1, none⟩ = some (.int .i64 a4) ∧ wb.cell? ⟨rb, off + j * 4 + 2, none⟩ = some (.string T) ∧ wb.cell? ⟨rb, off + j * 4 + 3, none⟩ = some (.slice pk ps.length ck)) := ⟨d0, d1, d2, d3⟩
              clear Hba hsame krow kr lrow lr d0 d1 d2 d3 c0 c1 c2 c3 ho2 hrc hy2 hbb Hy1 Ho1 hb0
              go_upto_region 16 with fail
              generalize hW : World.alloc wb _ = W5
              have hb5 : Below wb.heap.size wb W5 := by rw [← hW]; exact below1 _ _
              have hz5 : wb.heap.size < W5.heap.size := by rw [← hW]; simp
              have hbx : W5.heap[wb.heap.size]? = some (.cells #[.int .i64 K, .int .i64 a3, .string T, .slice pi ps.length ci] 30 (0, 0)) := by rw [← hW]; exact heap_alloc_new wb _
              have hzb : w4.heap.size ≤ wb.heap.size := Nat.le_trans hzr HBb.out.size
              have hrb5 : rb < wb.heap.size := Nat.lt_of_lt_of_le hrb hzb
              have hcall : ∀ W, Below W5.heap.size W5 W → Calls Try.prog 14 #[.agg #[.int .i64 K, .int .i64 a4, .string T, .slice pk ps.length ck], .agg #[.int .i64 K, .int .i64 a3, .string T, .slice pi ps.length ci], .bool false] W fun e w' => e = .returned (.bool true) ∧ Below W.heap.size W w' := fun W hb =>
                Hsame.out w4.heap.size a4 a3 _ _ W (by have := hb.size; omega) (Hlrow.out.stay ((hb5.mono hzb).trans (hb.mono (by omega)))) (Hkrow.out.stay ((hb5.mono hzb).trans (hb.mono (by omega))))
              have HS : Hid (∀ w', Below W5.heap.size W5 w' → w'.cell? ⟨wb.heap.size, 0, none⟩ = some (.int .i64 K) ∧ w'.cell? ⟨wb.heap.size, 1, none⟩ = some (.int .i64 a3) ∧ w'.cell? ⟨wb.heap.size, 2, none⟩ = some (.string T) ∧ w'.cell? ⟨wb.heap.size, 3, none⟩ = some (.slice pi ps.length ci) ∧
                  w'.cell? ⟨rb, off + j * 4, none⟩ = some (.int .i64 K) ∧ w'.cell? ⟨rb, off + j * 4 + 1, none⟩ = some (.int .i64 a4) ∧ w'.cell? ⟨rb, off + j * 4 + 2, none⟩ = some (.string T) ∧ w'.cell? ⟨rb, off + j * 4 + 3, none⟩ = some (.slice pk ps.length ck) ∧ Below W5.heap.size W5 w') := fun w' hb =>
                ⟨(hb.cell (p := ⟨wb.heap.size, 0, none⟩) hz5).trans (cell_of_row W5 _ 0 _ _ (0, 0) hbx), (hb.cell (p := ⟨wb.heap.size, 1, none⟩) hz5).trans (cell_of_row W5 _ 1 _ _ (0, 0) hbx), (hb.cell (p := ⟨wb.heap.size, 2, none⟩) hz5).trans (cell_of_row W5 _ 2 _ _ (0, 0) hbx), (hb.cell (p := ⟨wb.heap.size, 3, none⟩) hz5).trans (cell_of_row W5 _ 3 _ _ (0, 0) hbx),
                 (hb.cell (p := ⟨rb, _, none⟩) (show rb < W5.heap.size by omega)).trans ((hb5.cell (p := ⟨rb, _, none⟩) hrb5).trans Hd.out.1), (hb.cell (p := ⟨rb, _, none⟩) (show rb < W5.heap.size by omega)).trans ((hb5.cell (p := ⟨rb, _, none⟩) hrb5).trans Hd.out.2.1),
                 (hb.cell (p := ⟨rb, _, none⟩) (show rb < W5.heap.size by omega)).trans ((hb5.cell (p := ⟨rb, _, none⟩) hrb5).trans Hd.out.2.2.1), (hb.cell (p := ⟨rb, _, none⟩) (show rb < W5.heap.size by omega)).trans ((hb5.cell (p := ⟨rb, _, none⟩) hrb5).trans Hd.out.2.2.2), hb⟩
              have Hcall := hid hcall
              have HB5 := hid (hbr.out.trans ((HBb.out.mono hzr).trans (hb5.mono hzb)))
              have hz45 : w4.heap.size ≤ W5.heap.size := HB5.out.size
              clear hW hb5 hbx hcall Hsame Hkrow Hlrow Hd q0 q1 q2 q3 HBb HBa
              go_region_held3 (fun w' => w'.cell? ⟨wb.heap.size, 0, none⟩ = some (.int .i64 K) ∧ w'.cell? ⟨wb.heap.size, 1, none⟩ = some (.int .i64 a3) ∧ w'.cell? ⟨wb.heap.size, 2, none⟩ = some (.string T) ∧ w'.cell? ⟨wb.heap.size, 3, none⟩ = some (.slice pi ps.length ci) ∧
                  w'.cell? ⟨rb, off + j * 4, none⟩ = some (.int .i64 K) ∧ w'.cell? ⟨rb, off + j * 4 + 1, none⟩ = some (.int .i64 a4) ∧ w'.cell? ⟨rb, off + j * 4 + 2, none⟩ = some (.string T) ∧ w'.cell? ⟨rb, off + j * 4 + 3, none⟩ = some (.slice pk ps.length ck) ∧ Below W5.heap.size W5 w')
                (first | exact HS.out _ (Below.drew (Below.refl _ _)) | (refine HS.out _ (Below.goS hb ?_); go_split_ands; assumption))
                (first
                  | (go_at_call 14; refine (Hcall.out _ (by go_split_ands; assumption)).mono ?_; rintro e w6 ⟨rfl, hb⟩))
              all_goals
                have HB6 := hid (HB5.out.trans ((Below.goS hb (Below.drew (Below.refl _ _))).mono hz45))
                clear hb
                go_split_ands
                go_wp2_with fail
                go_roundw
                case rel => exact ⟨j + 1, by omega, by go_num, HB6⟩
                case measure => (simp [RowKit.intOf] <;> omega)
            · have hje : j = n + m := by omega
              subst hje
              have HBr := hid (HB4.out.trans (hbr.out.mono HB4.out.size))
              go_wp2_with fail
              go_ret
              exact ⟨rfl, HBr.out⟩
    · have h4' : decide ((3000 : Int) < (t.size : Int)) = true := by simp; omega
      go_enter Try.func7, Try.ntmps7
      go_wp2_with fail
      refine Hf.out.mono ?_
      rintro e w1 ⟨rfl, hb1⟩
      go_wp2_with fail
      go_ret
      exact ⟨rfl, hb1⟩
  · have h3' : decide ((3000 : Int) < (s.size : Int)) = true := by simp; omega
    go_enter Try.func7, Try.ntmps7
    go_wp2_with fail
    refine Hf.out.mono ?_
    rintro e w1 ⟨rfl, hb1⟩
    go_wp2_with fail
    go_ret
    exact ⟨rfl, hb1⟩
end Go.Proofs.Ytcpkejonpnmljaa
