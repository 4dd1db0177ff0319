/- Texts put together: SxSame, SxAgain, SxPrints, SxOpen. -/
import Derived.Test.YtcpkejonpnmljaaSexpPrintsCardM1
import Derived.Deep.RegionHeld3
import Derived.Deep.DeepCutAuto
import Derived.Deep.DeepHandedRow
import Derived.ProofKit
import Derived.OpenShut
import Derived.ChangeMaps5
import Derived.ChangeSlices
import Derived.Carry
import Derived.Lib.SmallJoins
import Derived.ChangeSame
/- elenchusref03.Same, of two expressions that read as one, places not asked. Made by gen_sxsame.py. -/
namespace Go.Proofs.Ytcpkejonpnmljaa
open Go.RowKit

theorem len13 {vs : List Value} (h : vs.length = 13) : ∃ a b c d e f g h i j k l m, vs = [a, b, c, d, e, f, g, h, i, j, k, l, m] := by
  match vs, h with
  | [a, b, c, d, e, f, g, h, i, j, k, l, m], _ => exact ⟨a, b, c, d, e, f, g, h, i, j, k, l, m, rfl⟩
def SameP (p : Px) : Prop := ∀ (N : Nat) (a1 a2 : Int) (v1 v2 : Value) (w : World), N ≤ w.heap.size → PxRow w N v1 p.parts → PxRow w N v2 p.parts →
  Calls Try.prog 14 #[.agg #[.int .i64 p.kind, .int .i64 a1, .string p.text, v1], .agg #[.int .i64 p.kind, .int .i64 a2, .string p.text, v2], .bool false] w fun e w' => e = .returned (.bool true) ∧ Below w.heap.size w w'

set_option maxRecDepth 100000 in
set_option maxHeartbeats 6400000 in
theorem same_step (p : Px) (hps : p.parts.length ≤ 281474976710656) (ih : ∀ i (h : i < p.parts.length), SameP (p.parts[i]'h)) : SameP p := by
  intro N a1 a2 v1 v2 w hN hr1 hr2
  obtain ⟨k, t, ps⟩ := p
  simp only [Px.kind, Px.text, Px.parts] at hps ih hr1 hr2 ⊢
  obtain ⟨p1, c1, rfl⟩ := hr1.form
  obtain ⟨p2, c2, rfl⟩ := hr2.form
  have hpi : (ps.length : Int) ≤ 281474976710656 := by omega
  have Hr1 := hid hr1; have Hr2 := hid hr2
  clear hr1 hr2
  obtain ⟨n, hn⟩ : ∃ n, n = ps.length := ⟨_, rfl⟩
  rw [← hn] at Hr1 Hr2 hpi ⊢
  have Hn := hid hn
  clear hn
  go_enter Try.func14, Try.ntmps14
  go_upto_region 1 with fail
  generalize hW : World.alloc (World.alloc w _) _ = W1
  have hb1 : Below w.heap.size w W1 := by rw [← hW]; exact (below1 _ _).alloc (by simp) _
  have hz1 : w.heap.size + 2 ≤ W1.heap.size := by rw [← hW]; simp
  have hx1 : W1.heap[w.heap.size]? = some (.cells #[.int .i64 k, .int .i64 a1, .string t, .slice p1 n c1] 30 (0, 0)) := by rw [← hW, heap_alloc_old _ _ (by simp)]; exact heap_alloc_new w _
  have hx2 : W1.heap[w.heap.size + 1]? = some (.cells #[.int .i64 k, .int .i64 a2, .string t, .slice p2 n c2] 30 (0, 0)) := by
    rw [← hW]
    have := heap_alloc_new (w.alloc (.cells #[.int .i64 k, .int .i64 a1, .string t, .slice p1 n c1] 30)) (.cells #[.int .i64 k, .int .i64 a2, .string t, .slice p2 n c2] 30)
    rwa [show (w.alloc (.cells #[.int .i64 k, .int .i64 a1, .string t, .slice p1 n c1] 30)).heap.size = w.heap.size + 1 by simp] at this
  have x0 := cell_of_row W1 _ 0 _ _ (0, 0) hx1; have x2 := cell_of_row W1 _ 2 _ _ (0, 0) hx1; have x3 := cell_of_row W1 _ 3 _ _ (0, 0) hx1
  have y0 := cell_of_row W1 _ 0 _ _ (0, 0) hx2; have y2 := cell_of_row W1 _ 2 _ _ (0, 0) hx2; have y3 := cell_of_row W1 _ 3 _ _ (0, 0) hx2
  have HX3 : Hid (W1.cell? ⟨w.heap.size, 3, none⟩ = some (.slice p1 n c1)) := x3
  have HY3 : Hid (W1.cell? ⟨w.heap.size + 1, 3, none⟩ = some (.slice p2 n c2)) := y3
  have HB1 := hid hb1
  clear hW hb1 hx1 hx2
  go_wp2_with fail
  go_loopw [42] (fun i wr => ∃ j : Nat, j ≤ n ∧ i = .int .i64 (j : Nat) ∧ Hid (Below W1.heap.size W1 wr)) (fun i _ => n - (RowKit.intOf i).toNat)
  case atStart => exact ⟨0, Nat.zero_le _, rfl, Below.refl _ _⟩
  case round =>
    obtain ⟨j, hj, rfl, hbr⟩ := hrel
    by_cases hlt : j < n
    · have hlt' : (j : Int) < (n : Int) := by omega
      have hlp : j < ps.length := by have := Hn.out; omega
      have hbw : Below w.heap.size w wr := HB1.out.trans (hbr.out.mono HB1.out.size)
      obtain ⟨rb1, off1, a1', vi1, hp1, hrb1, k0, k1, k2, k3, krow1⟩ := (Hr1.out.stay (hbw.mono hN)).at j hlp
      obtain ⟨rb2, off2, a2', vi2, hp2, hrb2, l0, l1, l2, l3, krow2⟩ := (Hr2.out.stay (hbw.mono hN)).at j hlp
      subst hp1 hp2
      have kr1 := krow1; have kr2 := krow2
      obtain ⟨pi1, ci1, rfl⟩ := kr1.form
      obtain ⟨pi2, ci2, rfl⟩ := kr2.form
      clear kr1 kr2
      have hcall : ∀ W, Below wr.heap.size wr W → Calls Try.prog 14 #[.agg #[.int .i64 (ps[j]'hlp).kind, .int .i64 a1', .string (ps[j]'hlp).text, .slice pi1 (ps[j]'hlp).parts.length ci1], .agg #[.int .i64 (ps[j]'hlp).kind, .int .i64 a2', .string (ps[j]'hlp).text, .slice pi2 (ps[j]'hlp).parts.length ci2], .bool false] W fun e w' => e = .returned (.bool true) ∧ Below W.heap.size W w' := fun W hb =>
        ih j hlp N a1' a2' _ _ W (by have := hbw.size; have := hb.size; omega) (krow1.stay (hb.mono (Nat.le_trans hN hbw.size))) (krow2.stay (hb.mono (Nat.le_trans hN hbw.size)))
      obtain ⟨K, hK⟩ : ∃ K, K = (ps[j]'hlp).kind := ⟨_, rfl⟩
      obtain ⟨T, hT⟩ : ∃ T, T = (ps[j]'hlp).text := ⟨_, rfl⟩
      obtain ⟨m, hm⟩ : ∃ m, m = (ps[j]'hlp).parts.length := ⟨_, rfl⟩
      rw [← hK, ← hT, ← hm] at hcall
      rw [← hK] at k0 l0; rw [← hT] at k2 l2; rw [← hm] at k3 l3
      have hw1 : rb1 < wr.heap.size := World.block_lt_of_cell? wr _ k0
      have hw2 : rb2 < wr.heap.size := World.block_lt_of_cell? wr _ l0
      have hwz := hbr.out.size
      have HS : Hid (∀ w', Below wr.heap.size wr w' → w'.cell? ⟨w.heap.size, 3, none⟩ = some (.slice (some ⟨rb1, off1, none⟩) n c1) ∧ w'.cell? ⟨w.heap.size + 1, 3, none⟩ = some (.slice (some ⟨rb2, off2, none⟩) n c2) ∧
          w'.cell? ⟨rb1, off1 + j * 4, none⟩ = some (.int .i64 K) ∧ w'.cell? ⟨rb1, off1 + j * 4 + 1, none⟩ = some (.int .i64 a1') ∧ w'.cell? ⟨rb1, off1 + j * 4 + 2, none⟩ = some (.string T) ∧ w'.cell? ⟨rb1, off1 + j * 4 + 3, none⟩ = some (.slice pi1 m ci1) ∧
          w'.cell? ⟨rb2, off2 + j * 4, none⟩ = some (.int .i64 K) ∧ w'.cell? ⟨rb2, off2 + j * 4 + 1, none⟩ = some (.int .i64 a2') ∧ w'.cell? ⟨rb2, off2 + j * 4 + 2, none⟩ = some (.string T) ∧ w'.cell? ⟨rb2, off2 + j * 4 + 3, none⟩ = some (.slice pi2 m ci2)) := fun w' hb =>
        ⟨(hb.cell (p := ⟨w.heap.size, 3, none⟩) (show w.heap.size < wr.heap.size by omega)).trans ((hbr.out.cell (p := ⟨w.heap.size, 3, none⟩) (show w.heap.size < W1.heap.size by omega)).trans HX3.out), (hb.cell (p := ⟨w.heap.size + 1, 3, none⟩) (show w.heap.size + 1 < wr.heap.size by omega)).trans ((hbr.out.cell (p := ⟨w.heap.size + 1, 3, none⟩) (show w.heap.size + 1 < W1.heap.size by omega)).trans HY3.out),
         (hb.cell (p := ⟨rb1, _, none⟩) hw1).trans k0, (hb.cell (p := ⟨rb1, _, none⟩) hw1).trans k1, (hb.cell (p := ⟨rb1, _, none⟩) hw1).trans k2, (hb.cell (p := ⟨rb1, _, none⟩) hw1).trans k3, (hb.cell (p := ⟨rb2, _, none⟩) hw2).trans l0, (hb.cell (p := ⟨rb2, _, none⟩) hw2).trans l1, (hb.cell (p := ⟨rb2, _, none⟩) hw2).trans l2, (hb.cell (p := ⟨rb2, _, none⟩) hw2).trans l3⟩
      have Hcall := hid hcall
      clear hK hT hm hcall k0 k1 k2 k3 l0 l1 l2 l3 krow1 krow2 Hr1 Hr2 x0 x2 x3 y0 y2 y3 HX3 HY3
      go_upto_region 6 with fail
      refine wp_region_facts (w0 := wr) 13 0 [45, 46, 47, 48, 49, 50, 51, 52, 53, 54, 55, 56, 57] [u45, u46, u47, u48, u49, u50, u51, u52, u53, u54, u55, u56, u57]
        (fun i => match i with | 0 => sxEq (.pointer (some ⟨w.heap.size, 3, none⟩)) | 1 => sxEq (.slice (some ⟨rb1, off1, none⟩) n c1) | 2 => sxEq (.int .i64 (j : Nat)) | 3 => sxEq (.pointer (some ⟨rb1, off1 + j * 4, none⟩)) | 4 => sxEq (.agg #[.int .i64 K, .int .i64 a1', .string T, .slice pi1 m ci1]) | 5 => sxEq (.pointer (some ⟨w.heap.size + 1, 3, none⟩)) | 6 => sxEq (.slice (some ⟨rb2, off2, none⟩) n c2) | 7 => sxEq (.int .i64 (j : Nat)) | 8 => sxEq (.pointer (some ⟨rb2, off2 + j * 4, none⟩)) | 9 => sxEq (.agg #[.int .i64 K, .int .i64 a2', .string T, .slice pi2 m ci2]) | 10 => sxEq (.bool false) | 11 => sxEq (.bool true) | _ => sxEq (.bool false)) [] (by kernel_rfl) (by kernel_rfl) (by kernel_rfl) (by kernel_rfl) (by decide) rfl (by kernel_rfl) rfl (by simp) ?he1 ?_ ?_ ?_
      case he1 => simp only [putAll, Act.put, List.setIfInBounds_toArray, List.set_cons_zero, List.set_cons_succ]
      · intro i hi; simp at hi
      · intro i o hi ho vs wx hvl hb hdep K hK
        have hvs := len13 hvl
        obtain ⟨s45, s46, s47, s48, s49, s50, s51, s52, s53, s54, s55, s56, s57, rfl⟩ := hvs
        clear hvl
        have hk := HS.out wx hb
        obtain ⟨q1, q2, k0, k1, k2, k3, l0, l1, l2, l3⟩ := hk
        rcases i with _ | _ | _ | _ | _ | _ | _ | _ | _ | _ | _ | _ | _ | i
        all_goals (simp only [List.getElem?_toArray, List.getElem?_cons_zero, List.getElem?_cons_succ, Option.some.injEq] at ho)
        all_goals try (subst ho)
        all_goals try simp only [putAll, Act.put, List.setIfInBounds_toArray, List.set_cons_zero, List.set_cons_succ]
        · go_simp
          have hK' := hK.out
          simp only [putAll, Act.put, List.setIfInBounds_toArray, List.set_cons_zero, List.set_cons_succ] at hK'
          exact hK' _ _ rfl (Below.refl _ _) (by simp)
        · have e0 : s45 = _ := hdep ⟨0, .data⟩ (by simp) rfl
          subst e0
          go_simp
          have hK' := hK.out
          simp only [putAll, Act.put, List.setIfInBounds_toArray, List.set_cons_zero, List.set_cons_succ] at hK'
          exact hK' _ _ rfl (Below.refl _ _) (by simp)
        · go_simp
          have hK' := hK.out
          simp only [putAll, Act.put, List.setIfInBounds_toArray, List.set_cons_zero, List.set_cons_succ] at hK'
          exact hK' _ _ rfl (Below.refl _ _) (by simp)
        · have e1 : s46 = _ := hdep ⟨1, .data⟩ (by simp) rfl
          subst e1
          have e2 : s47 = _ := hdep ⟨2, .data⟩ (by simp) rfl
          subst e2
          go_simp
          have hK' := hK.out
          simp only [putAll, Act.put, List.setIfInBounds_toArray, List.set_cons_zero, List.set_cons_succ] at hK'
          exact hK' _ _ rfl (Below.refl _ _) (by simp)
        · have e3 : s48 = _ := hdep ⟨3, .data⟩ (by simp) rfl
          subst e3
          go_simp
          have hK' := hK.out
          simp only [putAll, Act.put, List.setIfInBounds_toArray, List.set_cons_zero, List.set_cons_succ] at hK'
          exact hK' _ _ rfl (Below.refl _ _) (by simp)
        · go_simp
          have hK' := hK.out
          simp only [putAll, Act.put, List.setIfInBounds_toArray, List.set_cons_zero, List.set_cons_succ] at hK'
          exact hK' _ _ rfl (Below.refl _ _) (by simp)
        · have e5 : s50 = _ := hdep ⟨5, .data⟩ (by simp) rfl
          subst e5
          go_simp
          have hK' := hK.out
          simp only [putAll, Act.put, List.setIfInBounds_toArray, List.set_cons_zero, List.set_cons_succ] at hK'
          exact hK' _ _ rfl (Below.refl _ _) (by simp)
        · go_simp
          have hK' := hK.out
          simp only [putAll, Act.put, List.setIfInBounds_toArray, List.set_cons_zero, List.set_cons_succ] at hK'
          exact hK' _ _ rfl (Below.refl _ _) (by simp)
        · have e6 : s51 = _ := hdep ⟨6, .data⟩ (by simp) rfl
          subst e6
          have e7 : s52 = _ := hdep ⟨7, .data⟩ (by simp) rfl
          subst e7
          go_simp
          have hK' := hK.out
          simp only [putAll, Act.put, List.setIfInBounds_toArray, List.set_cons_zero, List.set_cons_succ] at hK'
          exact hK' _ _ rfl (Below.refl _ _) (by simp)
        · have e8 : s53 = _ := hdep ⟨8, .data⟩ (by simp) rfl
          subst e8
          go_simp
          have hK' := hK.out
          simp only [putAll, Act.put, List.setIfInBounds_toArray, List.set_cons_zero, List.set_cons_succ] at hK'
          exact hK' _ _ rfl (Below.refl _ _) (by simp)
        · go_simp
          have hK' := hK.out
          simp only [putAll, Act.put, List.setIfInBounds_toArray, List.set_cons_zero, List.set_cons_succ] at hK'
          exact hK' _ _ rfl (Below.refl _ _) (by simp)
        · have e4 : s49 = _ := hdep ⟨4, .data⟩ (by simp) rfl
          subst e4
          have e9 : s54 = _ := hdep ⟨9, .data⟩ (by simp) rfl
          subst e9
          have e10 : s55 = _ := hdep ⟨10, .data⟩ (by simp) rfl
          subst e10
          go_simp
          refine (Hcall.out wx hb).mono ?_
          rintro e wy ⟨rfl, hby⟩
          go_wp2_with fail
          have hK' := hK.out
          simp only [putAll, Act.put, List.setIfInBounds_toArray, List.set_cons_zero, List.set_cons_succ] at hK'
          exact hK' _ _ rfl hby (by simp)
        · have e11 : s56 = _ := hdep ⟨11, .data⟩ (by simp) rfl
          subst e11
          go_simp
          have hK' := hK.out
          simp only [putAll, Act.put, List.setIfInBounds_toArray, List.set_cons_zero, List.set_cons_succ] at hK'
          exact hK' _ _ rfl (Below.refl _ _) (by simp)
        · omega
      · intro vs wx hvl hb hf hdist
        have hvs := len13 hvl
        obtain ⟨s45, s46, s47, s48, s49, s50, s51, s52, s53, s54, s55, s56, s57, rfl⟩ := hvs
        have f12 : s57 = .bool false := hf 12 (by decide)
        subst f12
        clear hf hdist hvl
        refine wpAny_done (by kernel_rfl) ?_ _
        simp only [putAll, Act.put, List.setIfInBounds_toArray, List.set_cons_zero, List.set_cons_succ]
        have HBx := hid (hbr.out.trans (hb.mono hbr.out.size))
        clear hb
        go_wp2_with fail
        go_roundw
        case rel => exact ⟨j + 1, by omega, by go_num, HBx⟩
        case measure => (simp [RowKit.intOf] <;> omega)
    · obtain rfl : j = n := by omega
      have HBx := hid (HB1.out.trans (hbr.out.mono HB1.out.size))
      clear x0 x2 x3 y0 y2 y3 HX3 HY3
      go_wp2_with fail
      go_ret
      exact ⟨rfl, HBx.out⟩
mutual
theorem same_any : ∀ (p : Px), pxSmall p → SameP p
  | .mk k t ps, h => by
    unfold pxSmall at h
    exact same_step (.mk k t ps) h.2.1 (sames_any ps h.2.2)
theorem sames_any : ∀ (l : List Px), pxSmallL l → ∀ i (h : i < l.length), SameP (l[i]'h)
  | p :: l, hs, 0, _ => by unfold pxSmallL at hs; exact same_any p hs.1
  | p :: l, hs, i + 1, h => by unfold pxSmallL at hs; exact sames_any l hs.2 i (by simpa using h)
end
end Go.Proofs.Ytcpkejonpnmljaa
/- elenchuslaw03.SexpAgain. -/
namespace Go.Proofs.Ytcpkejonpnmljaa
open Go.RowKit

theorem Below.goS {u w w' : World} (hb : Below w.heap.size w w') (h : Below u.heap.size u w) : Below u.heap.size u w' := h.trans (hb.mono h.size)
theorem run_err {s : ByteArray} : ∀ (n a : Nat) (f : List Lp) (l : Lp) (p er : Nat), sxRun s n a f l = .error (p, er) → er ≠ 0
  | 0, _, _, _, _, _, h => by cases h
  | n + 1, a, f, l, p, er, h => by
    unfold sxRun at h
    split at h
    · cases hst : sxStep s a f l with
      | error e =>
        rw [hst] at h
        obtain ⟨p', er'⟩ := e
        cases h
        exact sxStep_err hst
      | ok r => obtain ⟨a', f', l'⟩ := r; rw [hst] at h; exact run_err n a' f' l' p er h
    · cases h
def NilOk (v : Value) : Prop := ∀ n c, v = .slice none n c → c = 0
theorem RowAt.nilOk {w : World} {D : Nat → Prop} {v : Value} {l : List Ex} (h : RowAt w D v l) : NilOk v := by
  intro n c e
  cases h with
  | nil => cases e; rfl
  | row => cases e
/-- what Read answers: expressions that read as P, or none -/
def RRead (P : Option (List Px)) (w : World) (e : Ending) (w' : World) : Prop := Below w.heap.size w w' ∧
  match P with
  | none => ∃ p er : Nat, er ≠ 0 ∧ e = .returned (.tuple #[.slice none 0 0, .int .i64 (p : Nat), .int .i64 (er : Nat)])
  | some l => ∃ v, e = .returned (.tuple #[v, .int .i64 0, .int .i64 0]) ∧ PxRow w' w'.heap.size v l ∧ NilOk v
/-- what a text reads as -/
def pxRead (s : ByteArray) : Option (List Px) :=
  match sxRun s (s.size + 1) 0 [] (0, []) with
  | .ok ([], l) => some (pxL l.2)
  | _ => none
theorem Read_px (s : ByteArray) (w : World) (hs : s.size ≤ 65536) : Calls Try.prog 10 #[.string s] w (RRead (pxRead s) w) := by
  refine (Read_any s w hs).mono fun e w' h => ?_
  unfold pxRead
  cases hr : sxRun s (s.size + 1) 0 [] (0, []) with
  | error r =>
    obtain ⟨p, er⟩ := r
    rw [hr] at h
    exact ⟨h.2, p, er, run_err _ _ _ _ _ _ hr, h.1⟩
  | ok r =>
    obtain ⟨f, l⟩ := r
    rw [hr] at h
    cases f with
    | nil =>
      unfold RAll at h
      simp only [if_true] at h
      obtain ⟨v, h1, h2, h3⟩ := h
      exact ⟨h3, v, h1, h2.px, h2.nilOk⟩
    | cons x f =>
      unfold RAll at h
      simp only [reduceCtorEq, if_false] at h
      exact ⟨h.2, l.1, 3, by decide, h.1⟩
theorem pxRead_some {s : ByteArray} {P : List Px} (h : pxRead s = some P) : Rd s.data.toList [] [] [] P := by
  unfold pxRead at h
  split at h
  · next l hr => injection h with h; rw [← h]; exact read_Rd hr
  · cases h
theorem pxRead_of {s : ByteArray} {P : List Px} (h : Rd s.data.toList [] [] [] P) : pxRead s = some P := by
  obtain ⟨L, h1, h2⟩ := Rd_read h
  unfold pxRead
  rw [h1]
  simp only
  rw [h2]
/-- what is read of a short text can be printed, and is read again as it was -/
theorem again_px {s : ByteArray} {P : List Px} (hs : s.size ≤ 5000) (h : pxRead s = some P) : ∀ p ∈ P, pxSmall p ∧ ∃ y, wrExpr p 0 wrStart = some y ∧ y.out.length ≤ 20000 ∧ pxRead (bz y.out) = some [p] := by
  intro p hp
  have hr := pxRead_some h
  obtain ⟨h1, h2⟩ := read_wf hr p hp
  have hl : s.data.toList.length = s.size := Array.length_toList
  rw [hl] at h2
  obtain ⟨y, hy, -⟩ := wr_of_wf p 0 wrStart h1 (show pxCost p ≤ 65536 by omega)
  refine ⟨small_of_wf p 0 h1 (by omega), y, hy, ?_, pxRead_of (read_back hy)⟩
  have := (wrExpr_out p 0 wrStart y hy).1
  have h3 := txt_le p
  rw [this]
  simp [wrStart]
  omega

set_option maxRecDepth 100000 in
set_option maxHeartbeats 6400000 in
theorem lawAgain_any (s : ByteArray) (w : World) (hs : s.size ≤ 9223372036854775807) : Calls Try.prog 6 #[.string s] w (RBool true w) := by
  have Hf := hid (fixed3_any w)
  by_cases h5 : s.size ≤ 5000
  · have h5' : decide ((5000 : Int) < (s.size : Int)) = false := by simp; omega
    have hrd := fun W => Read_px s W (by omega)
    have hag := fun P => again_px (s := s) (P := P) h5
    have hlen : ∀ P, pxRead s = some P → P.length ≤ 10000 := fun P h => by
      have := read_len (pxRead_some h)
      have hl : s.data.toList.length = s.size := Array.length_toList
      omega
    generalize pxRead s = R at *
    have Hrd := hid hrd; have Hag := hid hag; have Hlen := hid hlen
    clear hrd hag hlen
    go_enter Try.func6, Try.ntmps6
    go_wp2_with fail
    refine Hf.out.mono ?_
    rintro e w1 ⟨rfl, hb1⟩
    have HB1 := hid hb1
    clear hb1
    go_wp2_with fail
    refine (Hrd.out _).mono ?_
    intro e w2 h2
    cases R with
    | none =>
      obtain ⟨hb2, p, er, her, rfl⟩ := h2
      have HB2 := hid (HB1.out.trans (hb2.mono HB1.out.size))
      have her' : (((er : Nat) : Int) != 0) = true := by simp; omega
      clear hb2
      go_wp2_with fail
      go_ret
      exact ⟨rfl, HB2.out⟩
    | some P =>
      obtain ⟨hb2, v, rfl, hrow, -⟩ := h2
      obtain ⟨pv, cv, rfl⟩ := hrow.form
      have HB2 := hid (HB1.out.trans (hb2.mono HB1.out.size)); have Hrow := hid hrow
      have Hag := hid (Hag.out P rfl)
      obtain ⟨n, hn⟩ : ∃ n, n = P.length := ⟨_, rfl⟩
      have hnl : n ≤ 10000 := by have := Hlen.out P rfl; omega
      rw [← hn] at Hrow ⊢
      have Hn := hid hn
      clear hb2 hrow Hrd Hf hn
      go_wp2_with fail
      go_loopw [31] (fun i wr => ∃ j : Nat, j ≤ n ∧ i = .int .i64 (j : Nat) ∧ Hid (Below w2.heap.size w2 wr)) (fun i _ => n - (RowKit.intOf i).toNat)
      case atStart => exact ⟨0, Nat.zero_le _, rfl, Below.refl _ _⟩
      case round =>
        obtain ⟨j, hj, rfl, hbr⟩ := hrel
        by_cases hlt : j < n
        · have hlt' : (j : Int) < (n : Int) := by omega
          have hlp : j < P.length := by have := Hn.out; omega
          obtain ⟨rb, off, ai, vi, hpp, hrb, k0, k1, k2, k3, krow⟩ := (Hrow.out.stay hbr.out).at j hlp
          subst hpp
          have kr := krow
          obtain ⟨pi, ci, rfl⟩ := kr.form
          obtain ⟨hsm, y, hy, hyl, hback⟩ := Hag.out (P[j]'hlp) (List.getElem_mem hlp)
          have hprint := fun W hr => Print_any (P[j]'hlp) ai (.slice pi (P[j]'hlp).parts.length ci) W hsm hr
          rw [hy] at hprint
          have hread := fun W => Read_px (bz y.out) W (by rw [bz_size]; omega)
          rw [hback] at hread
          have hsame := same_any (P[j]'hlp) hsm
          unfold SameP at hsame
          generalize P[j]'hlp = X at *
          obtain ⟨K, T, ps⟩ := X
          simp only [Px.kind, Px.text, Px.parts] at *
          have Hprint := hid hprint; have Hread := hid hread; have Hsame := hid hsame; have Hkrow := hid krow
          clear hprint hread hsame krow kr hsm hy hback
          go_upto_region 11 with fail
          generalize hW : World.alloc wr _ = W3
          have hb3 : Below wr.heap.size wr W3 := by rw [← hW]; exact below1 _ _
          have hz3 : wr.heap.size < W3.heap.size := by rw [← hW]; simp
          have hbx : W3.heap[wr.heap.size]? = some (.cells #[.int .i64 K, .int .i64 ai, .string T, .slice pi ps.length ci] 30 (0, 0)) := by rw [← hW]; exact heap_alloc_new wr _
          have g0 := cell_of_row W3 _ 0 _ _ (0, 0) hbx; have g1 := cell_of_row W3 _ 1 _ _ (0, 0) hbx; have g2 := cell_of_row W3 _ 2 _ _ (0, 0) hbx; have g3 := cell_of_row W3 _ 3 _ _ (0, 0) hbx
          have hkr3 := (Hkrow.out.stay (hb3.mono hbr.out.size))
          have hpr := Hprint.out W3 (hkr3.mono (Nat.le_trans hbr.out.size hb3.size))
          have Hpr := hid hpr; have HB3 := hid (hbr.out.trans (hb3.mono hbr.out.size)); have Hbx := hid hbx; have Hkr3 := hid hkr3
          clear hW hb3 hbx hkr3 hpr Hprint Hkrow
          go_wp2_with fail
          refine Hpr.out.mono ?_
          rintro e w4 ⟨hb4, rfl⟩
          have HB4 := hid hb4
          clear hb4 g0 g1 g2 g3
          go_wp2_with fail
          refine (Hread.out w4).mono ?_
          rintro e w5 ⟨hb5, v5, rfl, hrow5, -⟩
          obtain ⟨p5, c5, rfl⟩ := hrow5.form
          obtain ⟨rb5, off5, a5, v5, hp5, hrb5, m0, m1, m2, m3, mrow⟩ := hrow5.at 0 (by simp)
          subst hp5
          have mr := mrow
          obtain ⟨p6, c6, rfl⟩ := mr.form
          simp only [List.getElem_cons_zero, Px.kind, Px.text, Px.parts, Nat.zero_mul, Nat.add_zero, List.length_cons, List.length_nil, Nat.zero_add] at m0 m1 m2 m3 mrow
          have HB5 := hid (HB4.out.trans (hb5.mono HB4.out.size))
          have hbx5 := (HB5.out.block _ (lt_of_heap Hbx.out)).trans Hbx.out
          have g0 := cell_of_row w5 _ 0 _ _ (0, 0) hbx5; have g1 := cell_of_row w5 _ 1 _ _ (0, 0) hbx5; have g2 := cell_of_row w5 _ 2 _ _ (0, 0) hbx5; have g3 := cell_of_row w5 _ 3 _ _ (0, 0) hbx5
          have hz5 : wr.heap.size < w5.heap.size := Nat.lt_of_lt_of_le hz3 HB5.out.size
          have hz25 : w2.heap.size ≤ w5.heap.size := Nat.le_trans hbr.out.size (Nat.le_of_lt hz5)
          have hcall : ∀ W, Below w5.heap.size w5 W → Calls Try.prog 14 #[.agg #[.int .i64 K, .int .i64 a5, .string T, .slice p6 ps.length c6], .agg #[.int .i64 K, .int .i64 ai, .string T, .slice pi ps.length ci], .bool false] W fun e w' => e = .returned (.bool true) ∧ Below W.heap.size W w' := fun W hb =>
            Hsame.out w5.heap.size a5 ai _ _ W hb.size (mrow.stay hb) (((Hkr3.out.stay (HB5.out.mono (Nat.le_trans hbr.out.size (Nat.le_of_lt hz3)))).mono hz25).stay hb)
          have HS : Hid (∀ w', Below w5.heap.size w5 w' → w'.cell? ⟨wr.heap.size, 0, none⟩ = some (.int .i64 K) ∧ w'.cell? ⟨wr.heap.size, 1, none⟩ = some (.int .i64 ai) ∧ w'.cell? ⟨wr.heap.size, 2, none⟩ = some (.string T) ∧ w'.cell? ⟨wr.heap.size, 3, none⟩ = some (.slice pi ps.length ci) ∧
              w'.cell? ⟨rb5, off5, none⟩ = some (.int .i64 K) ∧ w'.cell? ⟨rb5, off5 + 1, none⟩ = some (.int .i64 a5) ∧ w'.cell? ⟨rb5, off5 + 2, none⟩ = some (.string T) ∧ w'.cell? ⟨rb5, off5 + 3, none⟩ = some (.slice p6 ps.length c6) ∧ Below w5.heap.size w5 w') := fun w' hb =>
            ⟨(hb.cell (p := ⟨wr.heap.size, 0, none⟩) hz5).trans g0, (hb.cell (p := ⟨wr.heap.size, 1, none⟩) hz5).trans g1, (hb.cell (p := ⟨wr.heap.size, 2, none⟩) hz5).trans g2, (hb.cell (p := ⟨wr.heap.size, 3, none⟩) hz5).trans g3,
             (hb.cell (p := ⟨rb5, off5, none⟩) hrb5).trans m0, (hb.cell (p := ⟨rb5, off5 + 1, none⟩) hrb5).trans m1, (hb.cell (p := ⟨rb5, off5 + 2, none⟩) hrb5).trans m2, (hb.cell (p := ⟨rb5, off5 + 3, none⟩) hrb5).trans m3, hb⟩
          have Hcall := hid hcall
          have HBr := hid (HB3.out.trans ((HB5.out.mono (Nat.le_trans hbr.out.size (Nat.le_of_lt hz3)))))
          clear hcall hb5 hrow5 hbx5 mrow mr Hread Hsame Hkr3 Hpr Hbx HB3 HB4 g0 g1 g2 g3 m0 m1 m2 m3 k0 k1 k2 k3
          go_upto_region 13 with fail
          go_region_held3 (fun w' => w'.cell? ⟨wr.heap.size, 0, none⟩ = some (.int .i64 K) ∧ w'.cell? ⟨wr.heap.size, 1, none⟩ = some (.int .i64 ai) ∧ w'.cell? ⟨wr.heap.size, 2, none⟩ = some (.string T) ∧ w'.cell? ⟨wr.heap.size, 3, none⟩ = some (.slice pi ps.length ci) ∧
              w'.cell? ⟨rb5, off5, none⟩ = some (.int .i64 K) ∧ w'.cell? ⟨rb5, off5 + 1, none⟩ = some (.int .i64 a5) ∧ w'.cell? ⟨rb5, off5 + 2, none⟩ = some (.string T) ∧ w'.cell? ⟨rb5, off5 + 3, none⟩ = some (.slice p6 ps.length c6) ∧ Below w5.heap.size w5 w')
            (first | exact HS.out _ (Below.drew (Below.refl _ _)) | (refine HS.out _ (Below.goS hb ?_); go_split_ands; assumption))
            (first
              | (go_at_call 14; refine (Hcall.out _ (by go_split_ands; assumption)).mono ?_; rintro e w6 ⟨rfl, hb⟩))
          all_goals
            have HB6 := hid (HBr.out.trans ((Below.goS hb (Below.drew (Below.refl _ _))).mono hz25))
            clear hb
            go_split_ands
            go_wp2_with fail
            go_roundw
            case rel => exact ⟨j + 1, by omega, by go_num, HB6⟩
            case measure => (simp [RowKit.intOf] <;> omega)
        · obtain rfl : j = n := by omega
          have HBr := hid (HB2.out.trans (hbr.out.mono HB2.out.size))
          go_wp2_with fail
          go_ret
          exact ⟨rfl, HBr.out⟩
  · have h5' : (5000 : Int) < (s.size : Int) := by omega
    go_enter Try.func6, Try.ntmps6
    go_wp2_with fail
    refine Hf.out.mono ?_
    rintro e w1 ⟨rfl, hb1⟩
    go_wp2_with fail
    go_ret
    exact ⟨rfl, hb1⟩
end Go.Proofs.Ytcpkejonpnmljaa
/- elenchuslaw03.SexpPrints. -/
namespace Go.Proofs.Ytcpkejonpnmljaa
open Go.RowKit

mutual
theorem wf_of_wr : ∀ (p : Px) (deep : Nat) (x y : Wr), deep ≤ 64 → wrExpr p deep x = some y → pxWf deep p
  | .mk k t ps, deep, x, y, hd, h => by
    rw [wrExpr_mk] at h
    rw [pxWf_mk]
    split at h
    · next hk =>
      rw [if_pos hk]
      split at h
      · cases h
      · next hn =>
        have h64 : deep ≠ 64 := fun e => hn (.inr e)
        unfold wrList at h
        cases h1 : wrPut x [40] with
        | none => rw [h1] at h; cases h
        | some x1 =>
          rw [h1] at h
          simp only [Option.bind_some] at h
          cases h2 : wrParts ps deep false x1 with
          | none => rw [h2] at h; cases h
          | some x2 => exact ⟨Classical.byContradiction fun e => hn (.inl e), by omega, wfs_of_wr ps deep false x1 x2 (by omega) h2⟩
    · next hk =>
      rw [if_neg hk]
      split at h
      · cases h
      · next s hs =>
        split at h
        · next hl => exact ⟨⟨s, hs⟩, List.eq_nil_of_length_eq_zero hl⟩
        · cases h
theorem wfs_of_wr : ∀ (l : List Px) (deep : Nat) (more : Bool) (x y : Wr), deep < 64 → wrParts l deep more x = some y → pxWfs (deep + 1) l
  | [], deep, more, x, y, _, _ => by rw [pxWfs_nil]; trivial
  | p :: l, deep, more, x, y, hd, h => by
    rw [wrParts_cons] at h
    rw [pxWfs_cons]
    cases h1 : wrExpr p (deep + 1) { x with gap := more } with
    | none => rw [h1] at h; cases h
    | some x1 =>
      rw [h1] at h
      exact ⟨wf_of_wr p (deep + 1) { x with gap := more } x1 (by omega) h1, wfs_of_wr l deep true x1 y hd h⟩
end
theorem signs_len {k : Int} {t : ByteArray} {s : List UInt8} (h : pxSigns k t = some s) : s.length ≤ t.size + 2 := by
  have hl : t.data.toList.length = t.size := Array.length_toList
  unfold pxSigns at h
  (repeat' split at h) <;> first | (cases h; done) | (injection h with h; rw [← h]; simp; done) | (injection h with h; rw [← h]; simp; omega)
mutual
theorem cost_few : ∀ (p : Px), pxCost p ≤ 103 * pxFew p
  | .mk k t ps => by
    rw [pxCost_mk, pxFew_mk]
    have h1 := costs_few ps
    split
    · omega
    · cases hs : pxSigns k t with
      | none => simp; omega
      | some s =>
        have := signs_len hs
        simp only [Option.getD_some]
        omega
theorem costs_few : ∀ (l : List Px), pxCosts l ≤ 103 * pxFews l
  | [] => by rw [pxCosts_nil]; omega
  | p :: l => by
    rw [pxCosts_cons, pxFews_cons]
    have h1 := cost_few p
    have h2 := costs_few l
    omega
end
theorem few_pos (p : Px) : 1 ≤ pxFew p := by obtain ⟨k, t, ps⟩ := p; rw [pxFew_mk]; omega
theorem few_len : ∀ (l : List Px), l.length ≤ pxFews l
  | [] => by simp
  | p :: l => by
    rw [pxFews_cons, List.length_cons]
    have := few_len l
    have := few_pos p
    omega
mutual
theorem small_few : ∀ (p : Px), pxFew p ≤ 1000000 → pxSmall p
  | .mk k t ps, h => by
    rw [pxFew_mk] at h
    have := few_len ps
    unfold pxSmall
    exact ⟨by omega, by omega, smalls_few ps (by omega)⟩
theorem smalls_few : ∀ (l : List Px), pxFews l ≤ 1000000 → pxSmallL l
  | [], _ => by unfold pxSmallL; trivial
  | p :: l, h => by
    rw [pxFews_cons] at h
    unfold pxSmallL
    exact ⟨small_few p (by omega), smalls_few l (by omega)⟩
end

set_option maxRecDepth 100000 in
set_option maxHeartbeats 6400000 in
theorem lawPrints_any (p : Px) (a : Int) (v : Value) (w : World) (hfit : pxFit p) (hrow : PxRow w w.heap.size v p.parts) : Calls Try.prog 5 #[.agg #[.int .i64 p.kind, .int .i64 a, .string p.text, v]] w (RBool true w) := by
  have Hf := fun o => hid (fixed3_any (w.alloc o))
  have hfew := few_any p hfit
  have hst : pxFew p ≤ 500 → pxSmall p ∧ pxCost p ≤ 60000 := fun h => ⟨small_few p (by omega), by have := cost_few p; omega⟩
  have hprint := fun (h : pxFew p ≤ 500) W hr => Print_any p a v W (hst h).1 hr
  have href := fun (h : pxFew p ≤ 500) => rprint_any p (hst h).1 (by have := (hst h).2; omega)
  have hsame := fun (h : pxFew p ≤ 500) => same_any p (hst h).1
  have hgood : ∀ (h : pxFew p ≤ 500), pxWf 0 p → ∃ y, wrExpr p 0 wrStart = some y ∧ y.out = pxTxt p ∧ (bz y.out).size ≤ 65536 ∧ pxRead (bz y.out) = some [p] := fun h hw => by
    obtain ⟨y, hy, -⟩ := wr_of_wf p 0 wrStart hw (show pxCost p ≤ 65536 by have := (hst h).2; omega)
    have e : y.out = pxTxt p := by have := (wrExpr_out p 0 wrStart y hy).1; simpa [wrStart] using this
    refine ⟨y, hy, e, ?_, pxRead_of (read_back hy)⟩
    rw [bz_size, e]
    have := txt_le p
    have := (hst h).2
    omega
  have hbad : ¬ pxWf 0 p → wrExpr p 0 wrStart = none := fun h => by
    cases hw : wrExpr p 0 wrStart with
    | none => rfl
    | some y => exact absurd (wf_of_wr p 0 wrStart y (by omega) hw) h
  unfold FewP at hfew
  unfold RefP at href
  unfold SameP at hsame
  generalize wrExpr p 0 wrStart = R at *
  generalize hF : pxFew p = F at *
  obtain ⟨k, t, ps⟩ := p
  simp only [Px.kind, Px.text, Px.parts] at *
  obtain ⟨pv, cv, rfl⟩ := hrow.form
  have Hfew := hid hfew; have Hprint := hid hprint; have Href := hid href; have Hsame := hid hsame; have Hgood := hid hgood; have Hbad := hid hbad; have Hrow := hid hrow
  clear hfew hprint href hsame hgood hbad hrow hst hF hfit
  go_enter Try.func5, Try.ntmps5
  go_wp2_with fail
  refine (Hf _).out.mono ?_
  rintro e w1 ⟨rfl, hb1⟩
  have hbx : w1.heap[w.heap.size]? = some (.cells #[.int .i64 k, .int .i64 a, .string t, .slice pv ps.length cv] 30 (0, 0)) := (hb1.block _ (by simp)).trans (heap_alloc_new w _)
  have hz1 : w.heap.size < w1.heap.size := by have := hb1.size; simp at this; omega
  have HB1 := hid ((below1 w _).trans (hb1.mono (by simp : w.heap.size ≤ _))); have Hbx := hid hbx
  clear hb1 hbx Hf
  go_upto_region 4 with fail
  generalize hW : World.alloc w1 _ = W2
  have hb2 : Below w1.heap.size w1 W2 := by rw [← hW]; exact below1 _ _
  have hl2 : LeftAt W2 w1.heap.size 500 := by rw [← hW]; exact heap_alloc_new w1 _
  have hbx2 := (hb2.block _ hz1).trans Hbx.out
  have g0 := cell_of_row W2 _ 0 _ _ (0, 0) hbx2; have g1 := cell_of_row W2 _ 1 _ _ (0, 0) hbx2; have g2 := cell_of_row W2 _ 2 _ _ (0, 0) hbx2; have g3 := cell_of_row W2 _ 3 _ _ (0, 0) hbx2
  have hr2 := (Hrow.out.stay (HB1.out.trans (hb2.mono HB1.out.size))).mono (Nat.le_of_lt hz1)
  have hcall := Hfew.out w1.heap.size w1.heap.size 500 a _ W2 (by decide) (by decide) (Nat.le_refl _) hb2.size hl2 hr2
  have Hcall := hid hcall; have HB2 := hid hb2; have Hr2 := hid hr2; have Hbx2 := hid hbx2
  clear hW hb2 hl2 hbx2 hr2 hcall Hfew Hbx Hrow
  go_wp2_with fail
  refine Hcall.out.mono ?_
  rintro e w3 ⟨hb3, h3⟩
  have HB3 := hid (HB1.out.trans ((HB2.out.trans hb3.bel).mono HB1.out.size))
  have hbx3 := (hb3.bel.block _ hz1).trans Hbx2.out
  have hz3 : w1.heap.size ≤ w3.heap.size := Nat.le_trans HB2.out.size hb3.bel.size
  have Hr3 := hid ((Hr2.out.stay hb3.bel).mono hz3)
  clear hb3 g0 g1 g2 g3 Hr2 Hbx2
  by_cases hfw : ((F : Nat) : Int) ≤ 500
  · rw [if_pos hfw] at h3
    obtain ⟨rfl, -⟩ := h3
    have hF5 : F ≤ 500 := by omega
    have g0 := cell_of_row w3 _ 0 _ _ (0, 0) hbx3; have g1 := cell_of_row w3 _ 1 _ _ (0, 0) hbx3; have g2 := cell_of_row w3 _ 2 _ _ (0, 0) hbx3; have g3 := cell_of_row w3 _ 3 _ _ (0, 0) hbx3
    have Hpr := hid (Hprint.out hF5 w3 Hr3.out)
    have Href := hid (Href.out hF5); have Hsame := hid (Hsame.out hF5); have Hgood := hid (Hgood.out hF5); have Hbx3 := hid hbx3
    clear hbx3 Hprint hfw hF5
    go_wp2_with fail
    refine Hpr.out.mono ?_
    rintro e w4 ⟨hb4, h4⟩
    have hbx4 := (hb4.block _ (lt_of_heap Hbx3.out)).trans Hbx3.out
    have HB4 := hid (HB3.out.trans (hb4.mono HB3.out.size))
    have Hr4 := hid ((Hr3.out.stay hb4).mono hb4.size)
    have hz4 : w.heap.size < w4.heap.size := lt_of_heap hbx4
    clear g0 g1 g2 g3
    have g0 := cell_of_row w4 _ 0 _ _ (0, 0) hbx4; have g1 := cell_of_row w4 _ 1 _ _ (0, 0) hbx4; have g2 := cell_of_row w4 _ 2 _ _ (0, 0) hbx4; have g3 := cell_of_row w4 _ 3 _ _ (0, 0) hbx4
    have Hrf := hid (Href.out w4.heap.size 0 a _ w4 (by decide) (Nat.le_refl _) Hr4.out)
    have Hbx4 := hid hbx4
    clear hbx4 Hr3 hb4 Hpr Href Hbx3
    by_cases hw : pxWf 0 (.mk k t ps)
    · obtain ⟨y, hy, hyt, hys, hyr⟩ := Hgood.out hw
      subst hy
      simp only at h4
      subst h4
      rw [show (⟨y.out.toArray⟩ : ByteArray) = bz y.out from rfl]
      have hrd := fun W => Read_px (bz y.out) W hys
      rw [hyr] at hrd
      have Hrd := hid hrd
      have Hw := hid hw
      clear hrd hyr hw hys Hgood Hbad
      rw [hyt] at Hrd ⊢
      clear hyt
      go_wp2_with fail
      refine Hrf.out.mono ?_
      rintro e w5 ⟨r, hr, hb5, h5⟩
      rcases hr with ⟨-, rfl⟩ | ⟨hn, -⟩
      · simp only at h5
        subst h5
        have hbx5 := (hb5.block _ (lt_of_heap Hbx4.out)).trans Hbx4.out
        have HB5 := hid (HB4.out.trans (hb5.mono HB4.out.size)); have Hbx5 := hid hbx5
        have Hr5 := hid ((Hr4.out.stay hb5).mono hb5.size)
        clear hb5 hbx5 g0 g1 g2 g3 Hr4 Hbx4 Hrf
        generalize bz (pxTxt (.mk k t ps)) = S at *
        go_wp2_with fail
        refine (Hrd.out w5).mono ?_
        rintro e w6 ⟨hb6, v6, rfl, hrow6, -⟩
        obtain ⟨p6, c6, rfl⟩ := hrow6.form
        obtain ⟨rb, off, a6, vi, hp6, hrb, m0, m1, m2, m3, mrow⟩ := hrow6.at 0 (by simp)
        subst hp6
        have mr := mrow
        obtain ⟨pi, ci, rfl⟩ := mr.form
        simp only [List.getElem_cons_zero, Px.kind, Px.text, Px.parts, Nat.zero_mul, Nat.add_zero, List.length_cons, List.length_nil, Nat.zero_add] at m0 m1 m2 m3 mrow
        have hbx6 := (hb6.block _ (lt_of_heap Hbx5.out)).trans Hbx5.out
        have hxz : w.heap.size < w6.heap.size := lt_of_heap hbx6
        have hcall : ∀ W, Below w6.heap.size w6 W → Calls Try.prog 14 #[.agg #[.int .i64 k, .int .i64 a6, .string t, .slice pi ps.length ci], .agg #[.int .i64 k, .int .i64 a, .string t, .slice pv ps.length cv], .bool false] W fun e w' => e = .returned (.bool true) ∧ Below W.heap.size W w' := fun W hb =>
          Hsame.out w6.heap.size a6 a _ _ W hb.size (mrow.stay hb) (((Hr5.out.stay hb6).mono hb6.size).stay hb)
        have HS : Hid (∀ w', Below w6.heap.size w6 w' → w'.cell? ⟨w.heap.size, 0, none⟩ = some (.int .i64 k) ∧ w'.cell? ⟨w.heap.size, 1, none⟩ = some (.int .i64 a) ∧ w'.cell? ⟨w.heap.size, 2, none⟩ = some (.string t) ∧ w'.cell? ⟨w.heap.size, 3, none⟩ = some (.slice pv ps.length cv) ∧
            w'.cell? ⟨rb, off, none⟩ = some (.int .i64 k) ∧ w'.cell? ⟨rb, off + 1, none⟩ = some (.int .i64 a6) ∧ w'.cell? ⟨rb, off + 2, none⟩ = some (.string t) ∧ w'.cell? ⟨rb, off + 3, none⟩ = some (.slice pi ps.length ci) ∧ Below w6.heap.size w6 w') := fun w' hb =>
          ⟨(hb.cell (p := ⟨w.heap.size, 0, none⟩) hxz).trans (cell_of_row w6 _ 0 _ _ (0, 0) hbx6), (hb.cell (p := ⟨w.heap.size, 1, none⟩) hxz).trans (cell_of_row w6 _ 1 _ _ (0, 0) hbx6), (hb.cell (p := ⟨w.heap.size, 2, none⟩) hxz).trans (cell_of_row w6 _ 2 _ _ (0, 0) hbx6), (hb.cell (p := ⟨w.heap.size, 3, none⟩) hxz).trans (cell_of_row w6 _ 3 _ _ (0, 0) hbx6),
           (hb.cell (p := ⟨rb, off, none⟩) hrb).trans m0, (hb.cell (p := ⟨rb, off + 1, none⟩) hrb).trans m1, (hb.cell (p := ⟨rb, off + 2, none⟩) hrb).trans m2, (hb.cell (p := ⟨rb, off + 3, none⟩) hrb).trans m3, hb⟩
        have Hcall := hid hcall
        have HB6 := hid (HB5.out.trans (hb6.mono HB5.out.size))
        clear hcall hb6 hrow6 hbx6 mrow mr Hsame Hr5 Hbx5 m0 m1 m2 m3 Hrd
        go_upto_region 13 with fail
        go_region_held3 (fun w' => w'.cell? ⟨w.heap.size, 0, none⟩ = some (.int .i64 k) ∧ w'.cell? ⟨w.heap.size, 1, none⟩ = some (.int .i64 a) ∧ w'.cell? ⟨w.heap.size, 2, none⟩ = some (.string t) ∧ w'.cell? ⟨w.heap.size, 3, none⟩ = some (.slice pv ps.length cv) ∧
            w'.cell? ⟨rb, off, none⟩ = some (.int .i64 k) ∧ w'.cell? ⟨rb, off + 1, none⟩ = some (.int .i64 a6) ∧ w'.cell? ⟨rb, off + 2, none⟩ = some (.string t) ∧ w'.cell? ⟨rb, off + 3, none⟩ = some (.slice pi ps.length ci) ∧ Below w6.heap.size w6 w')
          (first | exact HS.out _ (Below.drew (Below.refl _ _)) | (refine HS.out _ (Below.goS hb ?_); go_split_ands; assumption))
          (first
            | (go_at_call 14; refine (Hcall.out _ (by go_split_ands; assumption)).mono ?_; rintro e w7 ⟨rfl, hb⟩))
        all_goals
          have HB7 := hid (HB6.out.trans ((Below.goS hb (Below.drew (Below.refl _ _))).mono HB6.out.size))
          clear hb
          go_split_ands
          go_wp2_with fail
          go_ret
          exact ⟨rfl, HB7.out⟩
      · exact absurd Hw.out hn
    · have hR := Hbad.out hw
      subst hR
      simp only at h4
      subst h4
      have Hw := hid hw
      clear hw Hgood Hbad
      go_wp2_with fail
      refine Hrf.out.mono ?_
      rintro e w5 ⟨r, hr, hb5, h5⟩
      rcases hr with ⟨hn, -⟩ | ⟨-, rfl⟩
      · exact absurd hn Hw.out
      · simp only at h5
        subst h5
        have HB5 := hid (HB4.out.trans (hb5.mono HB4.out.size))
        clear hb5
        go_wp2_with fail
        go_ret
        exact ⟨rfl, HB5.out⟩
  · rw [if_neg hfw] at h3
    subst h3
    go_wp2_with fail
    go_ret
    exact ⟨rfl, HB3.out⟩
end Go.Proofs.Ytcpkejonpnmljaa
/- An expression that comes in as data: how it reads. -/
namespace Go.Proofs.Ytcpkejonpnmljaa
open Go.ChangeShapes Go.WideShapes Go.ChangeAt Go.RowKit

theorem laidOutX : laidOutB Try.prog = true := by kernel_rfl
theorem fieldsExpr : ∃ f0 f1 f2 f3 : Field, Try.prog.underlying 30 = some (.struct #[f0, f1, f2, f3]) ∧ f0.type = 3 ∧ f1.type = 3 ∧ f2.type = 9 ∧ f3.type = 24 ∧ f0.offset = 0 ∧ f1.offset = 1 ∧ f2.offset = 2 ∧ f3.offset = 3 :=
  ⟨_, _, _, _, Try.underlying30, rfl, rfl, rfl, rfl, rfl, rfl, rfl, rfl⟩
theorem cellsExpr : Try.prog.cellsOf 30 = 4 := by kernel_rfl
theorem cellsI : Try.prog.cellsOf 3 = 1 := by kernel_rfl
theorem cellsS : Try.prog.cellsOf 9 = 1 := by kernel_rfl
theorem cellsL : Try.prog.cellsOf 24 = 1 := by kernel_rfl
theorem pxFitL_of {l : List Px} (h : ∀ p ∈ l, pxFit p) : pxFitL l := by
  induction l with
  | nil => unfold pxFitL; trivial
  | cons p l ih => unfold pxFitL; exact ⟨h p (by simp), ih fun q hq => h q (by simp [hq])⟩
/-- a row of expressions, out of what is known of each -/
theorem row_of {w : World} {N : Nat} (b off cap len : Nat) (hN : b < N ∨ len = 0) (sp : Option Addr) (hsp : 0 < len → sp = some ⟨b, off, none⟩)
    (h : ∀ i : Fin len, ∃ x : Px × Int × Value, w.cell? ⟨b, off + i.1 * 4, none⟩ = some (.int .i64 x.1.kind) ∧ w.cell? ⟨b, off + i.1 * 4 + 1, none⟩ = some (.int .i64 x.2.1) ∧ w.cell? ⟨b, off + i.1 * 4 + 2, none⟩ = some (.string x.1.text) ∧ w.cell? ⟨b, off + i.1 * 4 + 3, none⟩ = some x.2.2 ∧ PxRow w N x.2.2 x.1.parts ∧ pxFit x.1) :
    ∃ l : List Px, l.length = len ∧ PxRow w N (.slice sp len cap) l ∧ ∀ p ∈ l, pxFit p := by
  obtain ⟨f, hf⟩ := Classical.axiomOfChoice h
  by_cases hl : len = 0
  · subst hl
    exact ⟨[], rfl, .nil _ _, fun p hp => by cases hp⟩
  · have hb : b < N := by omega
    rw [hsp (by omega)]
    refine ⟨List.ofFn fun i => (f i).1, by simp, .row b off len cap _ (fun i => if h : i < len then (f ⟨i, h⟩).2.1 else 0) (fun i => if h : i < len then (f ⟨i, h⟩).2.2 else undef) (by simp) hb (fun i hi => ?_) (fun i hi => ?_) (fun i hi => ?_) (fun i hi => ?_) (fun i hi => ?_), fun p hp => ?_⟩
    · have hi' : i < len := by simpa using hi
      rw [List.getElem_ofFn]; exact (hf ⟨i, hi'⟩).1
    · have hi' : i < len := by simpa using hi
      simp only [dif_pos hi']; exact (hf ⟨i, hi'⟩).2.1
    · have hi' : i < len := by simpa using hi
      rw [List.getElem_ofFn]; exact (hf ⟨i, hi'⟩).2.2.1
    · have hi' : i < len := by simpa using hi
      simp only [dif_pos hi']; exact (hf ⟨i, hi'⟩).2.2.2.1
    · have hi' : i < len := by simpa using hi
      rw [List.getElem_ofFn]; simp only [dif_pos hi']; exact (hf ⟨i, hi'⟩).2.2.2.2.1
    · rw [List.mem_ofFn] at hp
      obtain ⟨i, rfl⟩ := hp
      exact (hf i).2.2.2.2.2
section
variable {H : Type} {enc : TypeId × Value → H} {w : World} {base : Nat} {spare : Nat → Bool} {held : Bool}
theorem cells4 {a : Addr} {cs : List Value} (h : w.cells? base a 4 = some cs) : ∃ c0 c1 c2 c3, cs = [c0, c1, c2, c3] ∧ w.cell? (a.add 0) = some c0 ∧ w.cell? (a.add 1) = some c1 ∧ w.cell? (a.add 2) = some c2 ∧ w.cell? (a.add 3) = some c3 := by
  unfold World.cells? at h
  split at h
  · have hl := mapM_some_length h
    simp at hl
    match cs, hl with
    | [c0, c1, c2, c3], _ => exact ⟨c0, c1, c2, c3, rfl, mapM_some_get h 0 0 rfl, mapM_some_get h 1 1 rfl, mapM_some_get h 2 2 rfl, mapM_some_get h 3 3 rfl⟩
  · cases h
theorem spot_none {b off : Nat} {sp : Option _} {v : Value} (h : w.cell? ((⟨b, off, sp⟩ : Addr)) = some v) : sp = none := by
  cases sp with
  | none => rfl
  | some x =>
    exfalso
    revert h
    unfold World.cell?
    split <;> simp
set_option maxRecDepth 100000 in
theorem open_slice (n : Nat) (ihn : ∀ m, m < n → ∀ cs x, DataW.trod enc Try.prog w base spare held m 30 cs = some x → ∃ (p : Px) (a : Int) (v : Value), cs = [.int .i64 p.kind, .int .i64 a, .string p.text, v] ∧ PxRow w w.heap.size v p.parts ∧ pxFit p)
    (cs : List Value) (x : DataW H × List MemPlace) (h : DataW.trod enc Try.prog w base spare held n 24 cs = some x) : ∃ v l, cs = [v] ∧ PxRow w w.heap.size v l ∧ l.length ≤ 9223372036854775807 ∧ pxFitL l := by
  rcases DataW.trod_slice Try.underlying24 h with ⟨rfl, -⟩ | ⟨a, len, cap, elems, rest, m, rfl, rfl, -, hb, hl, hm, hel, hget, -, -⟩
  · exact ⟨_, [], rfl, .nil _ _, by simp, by unfold pxFitL; trivial⟩
  · obtain ⟨b, off, sp⟩ := a
    rw [cellsExpr] at hget
    have hsp0 : 0 < len → sp = none := fun h0 => by
      have hg := hget 0 h0
      rw [List.getElem?_eq_getElem (by omega)] at hg
      obtain ⟨ci, h1, -⟩ := Option.bind_eq_some_iff.1 hg
      obtain ⟨c0, c1, c2, c3, -, k0, -⟩ := cells4 h1
      simp only [Nat.zero_mul, Addr.add] at k0
      exact spot_none k0
    have hone : ∀ i, i < len → sp = none ∧ b < w.heap.size ∧ ∃ y : Px × Int × Value, w.cell? ⟨b, off + i * 4, none⟩ = some (.int .i64 y.1.kind) ∧ w.cell? ⟨b, off + i * 4 + 1, none⟩ = some (.int .i64 y.2.1) ∧ w.cell? ⟨b, off + i * 4 + 2, none⟩ = some (.string y.1.text) ∧ w.cell? ⟨b, off + i * 4 + 3, none⟩ = some y.2.2 ∧ PxRow w w.heap.size y.2.2 y.1.parts ∧ pxFit y.1 := by
      intro i hi
      have hg := hget i hi
      rw [List.getElem?_eq_getElem (by omega)] at hg
      obtain ⟨ci, h1, h2⟩ := Option.bind_eq_some_iff.1 hg
      obtain ⟨p, a, v, rfl, hp, hfit⟩ := ihn m (by omega) ci _ h2
      obtain ⟨c0, c1, c2, c3, he, k0, k1, k2, k3⟩ := cells4 h1
      injection he with e0 he; injection he with e1 he; injection he with e2 he; injection he with e3 _
      subst e0 e1 e2 e3
      have hsp : sp = none := hsp0 (by omega)
      subst hsp
      simp only [add_plain] at k0 k1 k2 k3
      exact ⟨rfl, World.block_lt_of_cell? w _ k0, ⟨p, a, v⟩, k0, k1, k2, k3, hp, hfit⟩
    obtain ⟨l, hl1, hl2, hl3⟩ := row_of (w := w) (N := w.heap.size) b off cap len (by
        rcases Nat.eq_zero_or_pos len with h0 | h0
        · exact .inr h0
        · exact .inl (hone 0 h0).2.1) (some ⟨b, off, sp⟩) (fun h0 => by rw [(hone 0 h0).1]) (fun i => (hone i.1 i.2).2.2)
    exact ⟨_, l, rfl, hl2, by unfold maxLen at hm; omega, pxFitL_of hl3⟩
set_option maxRecDepth 100000 in
theorem open_ex : ∀ (fuel : Nat) (cs : List Value) (x : DataW H × List MemPlace), DataW.trod enc Try.prog w base spare held fuel 30 cs = some x → ∃ (p : Px) (a : Int) (v : Value), cs = [.int .i64 p.kind, .int .i64 a, .string p.text, v] ∧ PxRow w w.heap.size v p.parts ∧ pxFit p := by
  intro fuel
  induction fuel using Nat.strongRecOn with
  | _ fuel ih =>
    intro cs x h
    obtain ⟨f0, f1, f2, f3, hs, e0, e1, e2, e3, o0, o1, o2, o3⟩ := fieldsExpr
    obtain ⟨xs, n, rfl, rfl, hl, hlen, hf⟩ := DataW.trod_struct hs h
    rw [cellsExpr] at hl
    match cs, hl, xs, hlen with
    | [c0, c1, c2, c3], _, [y0, y1, y2, y3], _ =>
      have h0 := hf 0 f0 rfl
      have h1 := hf 1 f1 rfl
      have h2 := hf 2 f2 rfl
      have h3 := hf 3 f3 rfl
      rw [e0, o0, cellsI] at h0
      rw [e1, o1, cellsI] at h1
      rw [e2, o2, cellsS] at h2
      rw [e3, o3, cellsL] at h3
      obtain ⟨k, g0, -, -⟩ := DataW.trod_int Try.underlying3 (show DataW.trod enc Try.prog w base spare held n 3 [c0] = some y0 from h0)
      obtain ⟨a, g1, -, -⟩ := DataW.trod_int Try.underlying3 (show DataW.trod enc Try.prog w base spare held n 3 [c1] = some y1 from h1)
      obtain ⟨t, g2, -, ht⟩ := DataW.trod_string Try.underlying9 (show DataW.trod enc Try.prog w base spare held n 9 [c2] = some y2 from h2)
      obtain ⟨v, l, g3, hr, hll, hfl⟩ := open_slice n (fun m hm => ih m (by omega)) [c3] y3 h3
      injection g0 with g0 _; injection g1 with g1 _; injection g2 with g2 _; injection g3 with g3 _
      subst g0 g1 g2 g3
      exact ⟨.mk k t l, a, c3, rfl, hr, by unfold pxFit; exact ⟨by unfold maxLen at ht; omega, hll, hfl⟩⟩
/-- an expression by value -/
theorem open_expr {r : Reach} {b0 : Nat} {v : Value} {d : DataW H} {p : List MemPlace} (hv : Value.okWide Try.prog w r b0 30 v) (h : DataW.Trod enc Try.prog w base spare held 30 v d p) :
    ∃ (q : Px) (a : Int) (u : Value), v = .agg #[.int .i64 q.kind, .int .i64 a, .string q.text, u] ∧ PxRow w w.heap.size u q.parts ∧ pxFit q := by
  obtain ⟨f0, f1, f2, f3, hs, -⟩ := fieldsExpr
  obtain ⟨cs, rfl, hsz⟩ := okWide_struct hs hv
  obtain ⟨fuel, hf⟩ := h
  obtain ⟨q, a, u, hcs, hr, hfit⟩ := open_ex fuel _ _ hf
  refine ⟨q, a, u, ?_, hr, hfit⟩
  obtain ⟨l⟩ := cs
  have : l = [.int .i64 q.kind, .int .i64 a, .string q.text, u] := by simpa [Value.cells] using hcs
  rw [this]
end
end Go.Proofs.Ytcpkejonpnmljaa
