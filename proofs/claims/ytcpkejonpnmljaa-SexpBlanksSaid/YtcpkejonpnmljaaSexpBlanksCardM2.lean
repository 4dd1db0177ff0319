/- Texts put together: SxSame, SxAgain, SxPrints, SxOpen, SxJoinMath, SxBlanks, SxOpen2. -/
import Derived.Test.YtcpkejonpnmljaaSexpBlanksCardM1
import Derived.Deep.RegionHeld3
import Derived.Deep.DeepCutAuto
import Derived.Deep.DeepHandedRow
import Derived.ProofKit
import Derived.OpenShut
import Derived.ChangeMaps5
import Derived.ChangeSlices
import Derived.Carry
import Derived.Lib.SmallJoins
import Derived.ChangeSame
import Derived.Laws.AppendOwnNone
/- elenchusref03.Same, of two expressions that read as one, places not asked. Made by gen_sxsame.py. -/
namespace Go.Proofs.Ytcpkejonpnmljaa
open Go.RowKit

theorem len13 {vs : List Value} (h : vs.length = 13) : ∃ a b c d e f g h i j k l m, vs = [a, b, c, d, e, f, g, h, i, j, k, l, m] := by
  match vs, h with
  | [a, b, c, d, e, f, g, h, i, j, k, l, m], _ => exact ⟨a, b, c, d, e, f, g, h, i, j, k, l, m, rfl⟩
def SameP (p : Px) : Prop := ∀ (N : Nat) (a1 a2 : Int) (v1 v2 : Value) (w : World), N ≤ w.heap.size → PxRow w N v1 p.parts → PxRow w N v2 p.parts →
  Calls Try.prog 14 #[.agg #[.int .i64 p.kind, .int .i64 a1, .string p.text, v1], .agg #[.int .i64 p.kind, .int .i64 a2, .string p.text, v2], .bool false] w fun e w' => e = .returned (.bool true) ∧ Below w.heap.size w w'

set_option maxRecDepth 100000 in
set_option maxHeartbeats 6400000 in
theorem same_step (p : Px) (hps : p.parts.length ≤ 281474976710656) (ih : ∀ i (h : i < p.parts.length), SameP (p.parts[i]'h)) : SameP p := by
  intro N a1 a2 v1 v2 w hN hr1 hr2
  obtain ⟨k, t, ps⟩ := p
  simp only [Px.kind, Px.text, Px.parts] at hps ih hr1 hr2 ⊢
  obtain ⟨p1, c1, rfl⟩ := hr1.form
  obtain ⟨p2, c2, rfl⟩ := hr2.form
  have hpi : (ps.length : Int) ≤ 281474976710656 := by omega
  have Hr1 := hid hr1; have Hr2 := hid hr2
  clear hr1 hr2
  obtain ⟨n, hn⟩ : ∃ n, n = ps.length := ⟨_, rfl⟩
  rw [← hn] at Hr1 Hr2 hpi ⊢
  have Hn := hid hn
  clear hn
  go_enter Try.func14, Try.ntmps14
  go_upto_region 1 with fail
  generalize hW : World.alloc (World.alloc w _) _ = W1
  have hb1 : Below w.heap.size w W1 := by rw [← hW]; exact (below1 _ _).alloc (by simp) _
  have hz1 : w.heap.size + 2 ≤ W1.heap.size := by rw [← hW]; simp
  have hx1 : W1.heap[w.heap.size]? = some (.cells #[.int .i64 k, .int .i64 a1, .string t, .slice p1 n c1] 30 (0, 0)) := by rw [← hW, heap_alloc_old _ _ (by simp)]; exact heap_alloc_new w _
  have hx2 : W1.heap[w.heap.size + 1]? = some (.cells #[.int .i64 k, .int .i64 a2, .string t, .slice p2 n c2] 30 (0, 0)) := by
    rw [← hW]
    have := heap_alloc_new (w.alloc (.cells #[.int .i64 k, .int .i64 a1, .string t, .slice p1 n c1] 30)) (.cells #[.int .i64 k, .int .i64 a2, .string t, .slice p2 n c2] 30)
    rwa [show (w.alloc (.cells #[.int .i64 k, .int .i64 a1, .string t, .slice p1 n c1] 30)).heap.size = w.heap.size + 1 by simp] at this
  have x0 := cell_of_row W1 _ 0 _ _ (0, 0) hx1; have x2 := cell_of_row W1 _ 2 _ _ (0, 0) hx1; have x3 := cell_of_row W1 _ 3 _ _ (0, 0) hx1
  have y0 := cell_of_row W1 _ 0 _ _ (0, 0) hx2; have y2 := cell_of_row W1 _ 2 _ _ (0, 0) hx2; have y3 := cell_of_row W1 _ 3 _ _ (0, 0) hx2
  have HX3 : Hid (W1.cell? ⟨w.heap.size, 3, none⟩ = some (.slice p1 n c1)) := x3
  have HY3 : Hid (W1.cell? ⟨w.heap.size + 1, 3, none⟩ = some (.slice p2 n c2)) := y3
  have HB1 := hid hb1
  clear hW hb1 hx1 hx2
  go_wp2_with fail
  go_loopw [42] (fun i wr => ∃ j : Nat, j ≤ n ∧ i = .int .i64 (j : Nat) ∧ Hid (Below W1.heap.size W1 wr)) (fun i _ => n - (RowKit.intOf i).toNat)
  case atStart => exact ⟨0, Nat.zero_le _, rfl, Below.refl _ _⟩
  case round =>
    obtain ⟨j, hj, rfl, hbr⟩ := hrel
    by_cases hlt : j < n
    · have hlt' : (j : Int) < (n : Int) := by omega
      have hlp : j < ps.length := by have := Hn.out; omega
      have hbw : Below w.heap.size w wr := HB1.out.trans (hbr.out.mono HB1.out.size)
      obtain ⟨rb1, off1, a1', vi1, hp1, hrb1, k0, k1, k2, k3, krow1⟩ := (Hr1.out.stay (hbw.mono hN)).at j hlp
      obtain ⟨rb2, off2, a2', vi2, hp2, hrb2, l0, l1, l2, l3, krow2⟩ := (Hr2.out.stay (hbw.mono hN)).at j hlp
      subst hp1 hp2
      have kr1 := krow1; have kr2 := krow2
      obtain ⟨pi1, ci1, rfl⟩ := kr1.form
      obtain ⟨pi2, ci2, rfl⟩ := kr2.form
      clear kr1 kr2
      have hcall : ∀ W, Below wr.heap.size wr W → Calls Try.prog 14 #[.agg #[.int .i64 (ps[j]'hlp).kind, .int .i64 a1', .string (ps[j]'hlp).text, .slice pi1 (ps[j]'hlp).parts.length ci1], .agg #[.int .i64 (ps[j]'hlp).kind, .int .i64 a2', .string (ps[j]'hlp).text, .slice pi2 (ps[j]'hlp).parts.length ci2], .bool false] W fun e w' => e = .returned (.bool true) ∧ Below W.heap.size W w' := fun W hb =>
        ih j hlp N a1' a2' _ _ W (by have := hbw.size; have := hb.size; omega) (krow1.stay (hb.mono (Nat.le_trans hN hbw.size))) (krow2.stay (hb.mono (Nat.le_trans hN hbw.size)))
      obtain ⟨K, hK⟩ : ∃ K, K = (ps[j]'hlp).kind := ⟨_, rfl⟩
      obtain ⟨T, hT⟩ : ∃ T, T = (ps[j]'hlp).text := ⟨_, rfl⟩
      obtain ⟨m, hm⟩ : ∃ m, m = (ps[j]'hlp).parts.length := ⟨_, rfl⟩
      rw [← hK, ← hT, ← hm] at hcall
      rw [← hK] at k0 l0; rw [← hT] at k2 l2; rw [← hm] at k3 l3
      have hw1 : rb1 < wr.heap.size := World.block_lt_of_cell? wr _ k0
      have hw2 : rb2 < wr.heap.size := World.block_lt_of_cell? wr _ l0
      have hwz := hbr.out.size
      have HS : Hid (∀ w', Below wr.heap.size wr w' → w'.cell? ⟨w.heap.size, 3, none⟩ = some (.slice (some ⟨rb1, off1, none⟩) n c1) ∧ w'.cell? ⟨w.heap.size + 1, 3, none⟩ = some (.slice (some ⟨rb2, off2, none⟩) n c2) ∧
          w'.cell? ⟨rb1, off1 + j * 4, none⟩ = some (.int .i64 K) ∧ w'.cell? ⟨rb1, off1 + j * 4 + 1, none⟩ = some (.int .i64 a1') ∧ w'.cell? ⟨rb1, off1 + j * 4 + 2, none⟩ = some (.string T) ∧ w'.cell? ⟨rb1, off1 + j * 4 + 3, none⟩ = some (.slice pi1 m ci1) ∧
          w'.cell? ⟨rb2, off2 + j * 4, none⟩ = some (.int .i64 K) ∧ w'.cell? ⟨rb2, off2 + j * 4 + 1, none⟩ = some (.int .i64 a2') ∧ w'.cell? ⟨rb2, off2 + j * 4 + 2, none⟩ = some (.string T) ∧ w'.cell? ⟨rb2, off2 + j * 4 + 3, none⟩ = some (.slice pi2 m ci2)) := fun w' hb =>
        ⟨(hb.cell (p := ⟨w.heap.size, 3, none⟩) (show w.heap.size < wr.heap.size by omega)).trans ((hbr.out.cell (p := ⟨w.heap.size, 3, none⟩) (show w.heap.size < W1.heap.size by omega)).trans HX3.out), (hb.cell (p := ⟨w.heap.size + 1, 3, none⟩) (show w.heap.size + 1 < wr.heap.size by omega)).trans ((hbr.out.cell (p := ⟨w.heap.size + 1, 3, none⟩) (show w.heap.size + 1 < W1.heap.size by omega)).trans HY3.out),
         (hb.cell (p := ⟨rb1, _, none⟩) hw1).trans k0, (hb.cell (p := ⟨rb1, _, none⟩) hw1).trans k1, (hb.cell (p := ⟨rb1, _, none⟩) hw1).trans k2, (hb.cell (p := ⟨rb1, _, none⟩) hw1).trans k3, (hb.cell (p := ⟨rb2, _, none⟩) hw2).trans l0, (hb.cell (p := ⟨rb2, _, none⟩) hw2).trans l1, (hb.cell (p := ⟨rb2, _, none⟩) hw2).trans l2, (hb.cell (p := ⟨rb2, _, none⟩) hw2).trans l3⟩
      have Hcall := hid hcall
      clear hK hT hm hcall k0 k1 k2 k3 l0 l1 l2 l3 krow1 krow2 Hr1 Hr2 x0 x2 x3 y0 y2 y3 HX3 HY3
      go_upto_region 6 with fail
      refine wp_region_facts (w0 := wr) 13 0 [45, 46, 47, 48, 49, 50, 51, 52, 53, 54, 55, 56, 57] [u45, u46, u47, u48, u49, u50, u51, u52, u53, u54, u55, u56, u57]
        (fun i => match i with | 0 => sxEq (.pointer (some ⟨w.heap.size, 3, none⟩)) | 1 => sxEq (.slice (some ⟨rb1, off1, none⟩) n c1) | 2 => sxEq (.int .i64 (j : Nat)) | 3 => sxEq (.pointer (some ⟨rb1, off1 + j * 4, none⟩)) | 4 => sxEq (.agg #[.int .i64 K, .int .i64 a1', .string T, .slice pi1 m ci1]) | 5 => sxEq (.pointer (some ⟨w.heap.size + 1, 3, none⟩)) | 6 => sxEq (.slice (some ⟨rb2, off2, none⟩) n c2) | 7 => sxEq (.int .i64 (j : Nat)) | 8 => sxEq (.pointer (some ⟨rb2, off2 + j * 4, none⟩)) | 9 => sxEq (.agg #[.int .i64 K, .int .i64 a2', .string T, .slice pi2 m ci2]) | 10 => sxEq (.bool false) | 11 => sxEq (.bool true) | _ => sxEq (.bool false)) [] (by kernel_rfl) (by kernel_rfl) (by kernel_rfl) (by kernel_rfl) (by decide) rfl (by kernel_rfl) rfl (by simp) ?he1 ?_ ?_ ?_
      case he1 => simp only [putAll, Act.put, List.setIfInBounds_toArray, List.set_cons_zero, List.set_cons_succ]
      · intro i hi; simp at hi
      · intro i o hi ho vs wx hvl hb hdep K hK
        have hvs := len13 hvl
        obtain ⟨s45, s46, s47, s48, s49, s50, s51, s52, s53, s54, s55, s56, s57, rfl⟩ := hvs
        clear hvl
        have hk := HS.out wx hb
        obtain ⟨q1, q2, k0, k1, k2, k3, l0, l1, l2, l3⟩ := hk
        rcases i with _ | _ | _ | _ | _ | _ | _ | _ | _ | _ | _ | _ | _ | i
        all_goals (simp only [List.getElem?_toArray, List.getElem?_cons_zero, List.getElem?_cons_succ, Option.some.injEq] at ho)
        all_goals try (subst ho)
        all_goals try simp only [putAll, Act.put, List.setIfInBounds_toArray, List.set_cons_zero, List.set_cons_succ]
        · go_simp
          have hK' := hK.out
          simp only [putAll, Act.put, List.setIfInBounds_toArray, List.set_cons_zero, List.set_cons_succ] at hK'
          exact hK' _ _ rfl (Below.refl _ _) (by simp)
        · have e0 : s45 = _ := hdep ⟨0, .data⟩ (by simp) rfl
          subst e0
          go_simp
          have hK' := hK.out
          simp only [putAll, Act.put, List.setIfInBounds_toArray, List.set_cons_zero, List.set_cons_succ] at hK'
          exact hK' _ _ rfl (Below.refl _ _) (by simp)
        · go_simp
          have hK' := hK.out
          simp only [putAll, Act.put, List.setIfInBounds_toArray, List.set_cons_zero, List.set_cons_succ] at hK'
          exact hK' _ _ rfl (Below.refl _ _) (by simp)
        · have e1 : s46 = _ := hdep ⟨1, .data⟩ (by simp) rfl
          subst e1
          have e2 : s47 = _ := hdep ⟨2, .data⟩ (by simp) rfl
          subst e2
          go_simp
          have hK' := hK.out
          simp only [putAll, Act.put, List.setIfInBounds_toArray, List.set_cons_zero, List.set_cons_succ] at hK'
          exact hK' _ _ rfl (Below.refl _ _) (by simp)
        · have e3 : s48 = _ := hdep ⟨3, .data⟩ (by simp) rfl
          subst e3
          go_simp
          have hK' := hK.out
          simp only [putAll, Act.put, List.setIfInBounds_toArray, List.set_cons_zero, List.set_cons_succ] at hK'
          exact hK' _ _ rfl (Below.refl _ _) (by simp)
        · go_simp
          have hK' := hK.out
          simp only [putAll, Act.put, List.setIfInBounds_toArray, List.set_cons_zero, List.set_cons_succ] at hK'
          exact hK' _ _ rfl (Below.refl _ _) (by simp)
        · have e5 : s50 = _ := hdep ⟨5, .data⟩ (by simp) rfl
          subst e5
          go_simp
          have hK' := hK.out
          simp only [putAll, Act.put, List.setIfInBounds_toArray, List.set_cons_zero, List.set_cons_succ] at hK'
          exact hK' _ _ rfl (Below.refl _ _) (by simp)
        · go_simp
          have hK' := hK.out
          simp only [putAll, Act.put, List.setIfInBounds_toArray, List.set_cons_zero, List.set_cons_succ] at hK'
          exact hK' _ _ rfl (Below.refl _ _) (by simp)
        · have e6 : s51 = _ := hdep ⟨6, .data⟩ (by simp) rfl
          subst e6
          have e7 : s52 = _ := hdep ⟨7, .data⟩ (by simp) rfl
          subst e7
          go_simp
          have hK' := hK.out
          simp only [putAll, Act.put, List.setIfInBounds_toArray, List.set_cons_zero, List.set_cons_succ] at hK'
          exact hK' _ _ rfl (Below.refl _ _) (by simp)
        · have e8 : s53 = _ := hdep ⟨8, .data⟩ (by simp) rfl
          subst e8
          go_simp
          have hK' := hK.out
          simp only [putAll, Act.put, List.setIfInBounds_toArray, List.set_cons_zero, List.set_cons_succ] at hK'
          exact hK' _ _ rfl (Below.refl _ _) (by simp)
        · go_simp
          have hK' := hK.out
          simp only [putAll, Act.put, List.setIfInBounds_toArray, List.set_cons_zero, List.set_cons_succ] at hK'
          exact hK' _ _ rfl (Below.refl _ _) (by simp)
        · have e4 : s49 = _ := hdep ⟨4, .data⟩ (by simp) rfl
          subst e4
          have e9 : s54 = _ := hdep ⟨9, .data⟩ (by simp) rfl
          subst e9
          have e10 : s55 = _ := hdep ⟨10, .data⟩ (by simp) rfl
          subst e10
          go_simp
          refine (Hcall.out wx hb).mono ?_
          rintro e wy ⟨rfl, hby⟩
          go_wp2_with fail
          have hK' := hK.out
          simp only [putAll, Act.put, List.setIfInBounds_toArray, List.set_cons_zero, List.set_cons_succ] at hK'
          exact hK' _ _ rfl hby (by simp)
        · have e11 : s56 = _ := hdep ⟨11, .data⟩ (by simp) rfl
          subst e11
          go_simp
          have hK' := hK.out
          simp only [putAll, Act.put, List.setIfInBounds_toArray, List.set_cons_zero, List.set_cons_succ] at hK'
          exact hK' _ _ rfl (Below.refl _ _) (by simp)
        · omega
      · intro vs wx hvl hb hf hdist
        have hvs := len13 hvl
        obtain ⟨s45, s46, s47, s48, s49, s50, s51, s52, s53, s54, s55, s56, s57, rfl⟩ := hvs
        have f12 : s57 = .bool false := hf 12 (by decide)
        subst f12
        clear hf hdist hvl
        refine wpAny_done (by kernel_rfl) ?_ _
        simp only [putAll, Act.put, List.setIfInBounds_toArray, List.set_cons_zero, List.set_cons_succ]
        have HBx := hid (hbr.out.trans (hb.mono hbr.out.size))
        clear hb
        go_wp2_with fail
        go_roundw
        case rel => exact ⟨j + 1, by omega, by go_num, HBx⟩
        case measure => (simp [RowKit.intOf] <;> omega)
    · obtain rfl : j = n := by omega
      have HBx := hid (HB1.out.trans (hbr.out.mono HB1.out.size))
      clear x0 x2 x3 y0 y2 y3 HX3 HY3
      go_wp2_with fail
      go_ret
      exact ⟨rfl, HBx.out⟩
mutual
theorem same_any : ∀ (p : Px), pxSmall p → SameP p
  | .mk k t ps, h => by
    unfold pxSmall at h
    exact same_step (.mk k t ps) h.2.1 (sames_any ps h.2.2)
theorem sames_any : ∀ (l : List Px), pxSmallL l → ∀ i (h : i < l.length), SameP (l[i]'h)
  | p :: l, hs, 0, _ => by unfold pxSmallL at hs; exact same_any p hs.1
  | p :: l, hs, i + 1, h => by unfold pxSmallL at hs; exact sames_any l hs.2 i (by simpa using h)
end
end Go.Proofs.Ytcpkejonpnmljaa
/- elenchuslaw03.SexpAgain. -/
namespace Go.Proofs.Ytcpkejonpnmljaa
open Go.RowKit

theorem Below.goS {u w w' : World} (hb : Below w.heap.size w w') (h : Below u.heap.size u w) : Below u.heap.size u w' := h.trans (hb.mono h.size)
theorem run_err {s : ByteArray} : ∀ (n a : Nat) (f : List Lp) (l : Lp) (p er : Nat), sxRun s n a f l = .error (p, er) → er ≠ 0
  | 0, _, _, _, _, _, h => by cases h
  | n + 1, a, f, l, p, er, h => by
    unfold sxRun at h
    split at h
    · cases hst : sxStep s a f l with
      | error e =>
        rw [hst] at h
        obtain ⟨p', er'⟩ := e
        cases h
        exact sxStep_err hst
      | ok r => obtain ⟨a', f', l'⟩ := r; rw [hst] at h; exact run_err n a' f' l' p er h
    · cases h
def NilOk (v : Value) : Prop := ∀ n c, v = .slice none n c → c = 0
theorem RowAt.nilOk {w : World} {D : Nat → Prop} {v : Value} {l : List Ex} (h : RowAt w D v l) : NilOk v := by
  intro n c e
  cases h with
  | nil => cases e; rfl
  | row => cases e
/-- what Read answers: expressions that read as P, or none -/
def RRead (P : Option (List Px)) (w : World) (e : Ending) (w' : World) : Prop := Below w.heap.size w w' ∧
  match P with
  | none => ∃ p er : Nat, er ≠ 0 ∧ e = .returned (.tuple #[.slice none 0 0, .int .i64 (p : Nat), .int .i64 (er : Nat)])
  | some l => ∃ v, e = .returned (.tuple #[v, .int .i64 0, .int .i64 0]) ∧ PxRow w' w'.heap.size v l ∧ NilOk v
/-- what a text reads as -/
def pxRead (s : ByteArray) : Option (List Px) :=
  match sxRun s (s.size + 1) 0 [] (0, []) with
  | .ok ([], l) => some (pxL l.2)
  | _ => none
theorem Read_px (s : ByteArray) (w : World) (hs : s.size ≤ 65536) : Calls Try.prog 10 #[.string s] w (RRead (pxRead s) w) := by
  refine (Read_any s w hs).mono fun e w' h => ?_
  unfold pxRead
  cases hr : sxRun s (s.size + 1) 0 [] (0, []) with
  | error r =>
    obtain ⟨p, er⟩ := r
    rw [hr] at h
    exact ⟨h.2, p, er, run_err _ _ _ _ _ _ hr, h.1⟩
  | ok r =>
    obtain ⟨f, l⟩ := r
    rw [hr] at h
    cases f with
    | nil =>
      unfold RAll at h
      simp only [if_true] at h
      obtain ⟨v, h1, h2, h3⟩ := h
      exact ⟨h3, v, h1, h2.px, h2.nilOk⟩
    | cons x f =>
      unfold RAll at h
      simp only [reduceCtorEq, if_false] at h
      exact ⟨h.2, l.1, 3, by decide, h.1⟩
theorem pxRead_some {s : ByteArray} {P : List Px} (h : pxRead s = some P) : Rd s.data.toList [] [] [] P := by
  unfold pxRead at h
  split at h
  · next l hr => injection h with h; rw [← h]; exact read_Rd hr
  · cases h
theorem pxRead_of {s : ByteArray} {P : List Px} (h : Rd s.data.toList [] [] [] P) : pxRead s = some P := by
  obtain ⟨L, h1, h2⟩ := Rd_read h
  unfold pxRead
  rw [h1]
  simp only
  rw [h2]
/-- what is read of a short text can be printed, and is read again as it was -/
theorem again_px {s : ByteArray} {P : List Px} (hs : s.size ≤ 5000) (h : pxRead s = some P) : ∀ p ∈ P, pxSmall p ∧ ∃ y, wrExpr p 0 wrStart = some y ∧ y.out.length ≤ 20000 ∧ pxRead (bz y.out) = some [p] := by
  intro p hp
  have hr := pxRead_some h
  obtain ⟨h1, h2⟩ := read_wf hr p hp
  have hl : s.data.toList.length = s.size := Array.length_toList
  rw [hl] at h2
  obtain ⟨y, hy, -⟩ := wr_of_wf p 0 wrStart h1 (show pxCost p ≤ 65536 by omega)
  refine ⟨small_of_wf p 0 h1 (by omega), y, hy, ?_, pxRead_of (read_back hy)⟩
  have := (wrExpr_out p 0 wrStart y hy).1
  have h3 := txt_le p
  rw [this]
  simp [wrStart]
  omega

set_option maxRecDepth 100000 in
set_option maxHeartbeats 6400000 in
theorem lawAgain_any (s : ByteArray) (w : World) (hs : s.size ≤ 9223372036854775807) : Calls Try.prog 6 #[.string s] w (RBool true w) := by
  have Hf := hid (fixed3_any w)
  by_cases h5 : s.size ≤ 5000
  · have h5' : decide ((5000 : Int) < (s.size : Int)) = false := by simp; omega
    have hrd := fun W => Read_px s W (by omega)
    have hag := fun P => again_px (s := s) (P := P) h5
    have hlen : ∀ P, pxRead s = some P → P.length ≤ 10000 := fun P h => by
      have := read_len (pxRead_some h)
      have hl : s.data.toList.length = s.size := Array.length_toList
      omega
    generalize pxRead s = R at *
    have Hrd := hid hrd; have Hag := hid hag; have Hlen := hid hlen
    clear hrd hag hlen
    go_enter Try.func6, Try.ntmps6
    go_wp2_with fail
    refine Hf.out.mono ?_
    rintro e w1 ⟨rfl, hb1⟩
    have HB1 := hid hb1
    clear hb1
    go_wp2_with fail
    refine (Hrd.out _).mono ?_
    intro e w2 h2
    cases R with
    | none =>
      obtain ⟨hb2, p, er, her, rfl⟩ := h2
      have HB2 := hid (HB1.out.trans (hb2.mono HB1.out.size))
      have her' : (((er : Nat) : Int) != 0) = true := by simp; omega
      clear hb2
      go_wp2_with fail
      go_ret
      exact ⟨rfl, HB2.out⟩
    | some P =>
      obtain ⟨hb2, v, rfl, hrow, -⟩ := h2
      obtain ⟨pv, cv, rfl⟩ := hrow.form
      have HB2 := hid (HB1.out.trans (hb2.mono HB1.out.size)); have Hrow := hid hrow
      have Hag := hid (Hag.out P rfl)
      obtain ⟨n, hn⟩ : ∃ n, n = P.length := ⟨_, rfl⟩
      have hnl : n ≤ 10000 := by have := Hlen.out P rfl; omega
      rw [← hn] at Hrow ⊢
      have Hn := hid hn
      clear hb2 hrow Hrd Hf hn
      go_wp2_with fail
      go_loopw [31] (fun i wr => ∃ j : Nat, j ≤ n ∧ i = .int .i64 (j : Nat) ∧ Hid (Below w2.heap.size w2 wr)) (fun i _ => n - (RowKit.intOf i).toNat)
      case atStart => exact ⟨0, Nat.zero_le _, rfl, Below.refl _ _⟩
      case round =>
        obtain ⟨j, hj, rfl, hbr⟩ := hrel
        by_cases hlt : j < n
        · have hlt' : (j : Int) < (n : Int) := by omega
          have hlp : j < P.length := by have := Hn.out; omega
          obtain ⟨rb, off, ai, vi, hpp, hrb, k0, k1, k2, k3, krow⟩ := (Hrow.out.stay hbr.out).at j hlp
          subst hpp
          have kr := krow
          obtain ⟨pi, ci, rfl⟩ := kr.form
          obtain ⟨hsm, y, hy, hyl, hback⟩ := Hag.out (P[j]'hlp) (List.getElem_mem hlp)
          have hprint := fun W hr => Print_any (P[j]'hlp) ai (.slice pi (P[j]'hlp).parts.length ci) W hsm hr
          rw [hy] at hprint
          have hread := fun W => Read_px (bz y.out) W (by rw [bz_size]; omega)
          rw [hback] at hread
          have hsame := same_any (P[j]'hlp) hsm
          unfold SameP at hsame
          generalize P[j]'hlp = X at *
          obtain ⟨K, T, ps⟩ := X
          simp only [Px.kind, Px.text, Px.parts] at *
          have Hprint := hid hprint; have Hread := hid hread; have Hsame := hid hsame; have Hkrow := hid krow
          clear hprint hread hsame krow kr hsm hy hback
          go_upto_region 11 with fail
          generalize hW : World.alloc wr _ = W3
          have hb3 : Below wr.heap.size wr W3 := by rw [← hW]; exact below1 _ _
          have hz3 : wr.heap.size < W3.heap.size := by rw [← hW]; simp
          have hbx : W3.heap[wr.heap.size]? = some (.cells #[.int .i64 K, .int .i64 ai, .string T, .slice pi ps.length ci] 30 (0, 0)) := by rw [← hW]; exact heap_alloc_new wr _
          have g0 := cell_of_row W3 _ 0 _ _ (0, 0) hbx; have g1 := cell_of_row W3 _ 1 _ _ (0, 0) hbx; have g2 := cell_of_row W3 _ 2 _ _ (0, 0) hbx; have g3 := cell_of_row W3 _ 3 _ _ (0, 0) hbx
          have hkr3 := (Hkrow.out.stay (hb3.mono hbr.out.size))
          have hpr := Hprint.out W3 (hkr3.mono (Nat.le_trans hbr.out.size hb3.size))
          have Hpr := hid hpr; have HB3 := hid (hbr.out.trans (hb3.mono hbr.out.size)); have Hbx := hid hbx; have Hkr3 := hid hkr3
          clear hW hb3 hbx hkr3 hpr Hprint Hkrow
          go_wp2_with fail
          refine Hpr.out.mono ?_
          rintro e w4 ⟨hb4, rfl⟩
          have HB4 := hid hb4
          clear hb4 g0 g1 g2 g3
          go_wp2_with fail
          refine (Hread.out w4).mono ?_
          rintro e w5 ⟨hb5, v5, rfl, hrow5, -⟩
          obtain ⟨p5, c5, rfl⟩ := hrow5.form
          obtain ⟨rb5, off5, a5, v5, hp5, hrb5, m0, m1, m2, m3, mrow⟩ := hrow5.at 0 (by simp)
          subst hp5
          have mr := mrow
          obtain ⟨p6, c6, rfl⟩ := mr.form
          simp only [List.getElem_cons_zero, Px.kind, Px.text, Px.parts, Nat.zero_mul, Nat.add_zero, List.length_cons, List.length_nil, Nat.zero_add] at m0 m1 m2 m3 mrow
          have HB5 := hid (HB4.out.trans (hb5.mono HB4.out.size))
          have hbx5 := (HB5.out.block _ (lt_of_heap Hbx.out)).trans Hbx.out
          have g0 := cell_of_row w5 _ 0 _ _ (0, 0) hbx5; have g1 := cell_of_row w5 _ 1 _ _ (0, 0) hbx5; have g2 := cell_of_row w5 _ 2 _ _ (0, 0) hbx5; have g3 := cell_of_row w5 _ 3 _ _ (0, 0) hbx5
          have hz5 : wr.heap.size < w5.heap.size := Nat.lt_of_lt_of_le hz3 HB5.out.size
          have hz25 : w2.heap.size ≤ w5.heap.size := Nat.le_trans hbr.out.size (Nat.le_of_lt hz5)
          have hcall : ∀ W, Below w5.heap.size w5 W → Calls Try.prog 14 #[.agg #[.int .i64 K, .int .i64 a5, .string T, .slice p6 ps.length c6], .agg #[.int .i64 K, .int .i64 ai, .string T, .slice pi ps.length ci], .bool false] W fun e w' => e = .returned (.bool true) ∧ Below W.heap.size W w' := fun W hb =>
            Hsame.out w5.heap.size a5 ai _ _ W hb.size (mrow.stay hb) (((Hkr3.out.stay (HB5.out.mono (Nat.le_trans hbr.out.size (Nat.le_of_lt hz3)))).mono hz25).stay hb)
          have HS : Hid (∀ w', Below w5.heap.size w5 w' → w'.cell? ⟨wr.heap.size, 0, none⟩ = some (.int .i64 K) ∧ w'.cell? ⟨wr.heap.size, 1, none⟩ = some (.int .i64 ai) ∧ w'.cell? ⟨wr.heap.size, 2, none⟩ = some (.string T) ∧ w'.cell? ⟨wr.heap.size, 3, none⟩ = some (.slice pi ps.length ci) ∧
              w'.cell? ⟨rb5, off5, none⟩ = some (.int .i64 K) ∧ w'.cell? ⟨rb5, off5 + 1, none⟩ = some (.int .i64 a5) ∧ w'.cell? ⟨rb5, off5 + 2, none⟩ = some (.string T) ∧ w'.cell? ⟨rb5, off5 + 3, none⟩ = some (.slice p6 ps.length c6) ∧ Below w5.heap.size w5 w') := fun w' hb =>
            ⟨(hb.cell (p := ⟨wr.heap.size, 0, none⟩) hz5).trans g0, (hb.cell (p := ⟨wr.heap.size, 1, none⟩) hz5).trans g1, (hb.cell (p := ⟨wr.heap.size, 2, none⟩) hz5).trans g2, (hb.cell (p := ⟨wr.heap.size, 3, none⟩) hz5).trans g3,
             (hb.cell (p := ⟨rb5, off5, none⟩) hrb5).trans m0, (hb.cell (p := ⟨rb5, off5 + 1, none⟩) hrb5).trans m1, (hb.cell (p := ⟨rb5, off5 + 2, none⟩) hrb5).trans m2, (hb.cell (p := ⟨rb5, off5 + 3, none⟩) hrb5).trans m3, hb⟩
          have Hcall := hid hcall
          have HBr := hid (HB3.out.trans ((HB5.out.mono (Nat.le_trans hbr.out.size (Nat.le_of_lt hz3)))))
          clear hcall hb5 hrow5 hbx5 mrow mr Hread Hsame Hkr3 Hpr Hbx HB3 HB4 g0 g1 g2 g3 m0 m1 m2 m3 k0 k1 k2 k3
          go_upto_region 13 with fail
          go_region_held3 (fun w' => w'.cell? ⟨wr.heap.size, 0, none⟩ = some (.int .i64 K) ∧ w'.cell? ⟨wr.heap.size, 1, none⟩ = some (.int .i64 ai) ∧ w'.cell? ⟨wr.heap.size, 2, none⟩ = some (.string T) ∧ w'.cell? ⟨wr.heap.size, 3, none⟩ = some (.slice pi ps.length ci) ∧
              w'.cell? ⟨rb5, off5, none⟩ = some (.int .i64 K) ∧ w'.cell? ⟨rb5, off5 + 1, none⟩ = some (.int .i64 a5) ∧ w'.cell? ⟨rb5, off5 + 2, none⟩ = some (.string T) ∧ w'.cell? ⟨rb5, off5 + 3, none⟩ = some (.slice p6 ps.length c6) ∧ Below w5.heap.size w5 w')
            (first | exact HS.out _ (Below.drew (Below.refl _ _)) | (refine HS.out _ (Below.goS hb ?_); go_split_ands; assumption))
            (first
              | (go_at_call 14; refine (Hcall.out _ (by go_split_ands; assumption)).mono ?_; rintro e w6 ⟨rfl, hb⟩))
          all_goals
            have HB6 := hid (HBr.out.trans ((Below.goS hb (Below.drew (Below.refl _ _))).mono hz25))
            clear hb
            go_split_ands
            go_wp2_with fail
            go_roundw
            case rel => exact ⟨j + 1, by omega, by go_num, HB6⟩
            case measure => (simp [RowKit.intOf] <;> omega)
        · obtain rfl : j = n := by omega
          have HBr := hid (HB2.out.trans (hbr.out.mono HB2.out.size))
          go_wp2_with fail
          go_ret
          exact ⟨rfl, HBr.out⟩
  · have h5' : (5000 : Int) < (s.size : Int) := by omega
    go_enter Try.func6, Try.ntmps6
    go_wp2_with fail
    refine Hf.out.mono ?_
    rintro e w1 ⟨rfl, hb1⟩
    go_wp2_with fail
    go_ret
    exact ⟨rfl, hb1⟩
end Go.Proofs.Ytcpkejonpnmljaa
/- elenchuslaw03.SexpPrints. -/
namespace Go.Proofs.Ytcpkejonpnmljaa
open Go.RowKit

mutual
theorem wf_of_wr : ∀ (p : Px) (deep : Nat) (x y : Wr), deep ≤ 64 → wrExpr p deep x = some y → pxWf deep p
  | .mk k t ps, deep, x, y, hd, h => by
    rw [wrExpr_mk] at h
    rw [pxWf_mk]
    split at h
    · next hk =>
      rw [if_pos hk]
      split at h
      · cases h
      · next hn =>
        have h64 : deep ≠ 64 := fun e => hn (.inr e)
        unfold wrList at h
        cases h1 : wrPut x [40] with
        | none => rw [h1] at h; cases h
        | some x1 =>
          rw [h1] at h
          simp only [Option.bind_some] at h
          cases h2 : wrParts ps deep false x1 with
          | none => rw [h2] at h; cases h
          | some x2 => exact ⟨Classical.byContradiction fun e => hn (.inl e), by omega, wfs_of_wr ps deep false x1 x2 (by omega) h2⟩
    · next hk =>
      rw [if_neg hk]
      split at h
      · cases h
      · next s hs =>
        split at h
        · next hl => exact ⟨⟨s, hs⟩, List.eq_nil_of_length_eq_zero hl⟩
        · cases h
theorem wfs_of_wr : ∀ (l : List Px) (deep : Nat) (more : Bool) (x y : Wr), deep < 64 → wrParts l deep more x = some y → pxWfs (deep + 1) l
  | [], deep, more, x, y, _, _ => by rw [pxWfs_nil]; trivial
  | p :: l, deep, more, x, y, hd, h => by
    rw [wrParts_cons] at h
    rw [pxWfs_cons]
    cases h1 : wrExpr p (deep + 1) { x with gap := more } with
    | none => rw [h1] at h; cases h
    | some x1 =>
      rw [h1] at h
      exact ⟨wf_of_wr p (deep + 1) { x with gap := more } x1 (by omega) h1, wfs_of_wr l deep true x1 y hd h⟩
end
theorem signs_len {k : Int} {t : ByteArray} {s : List UInt8} (h : pxSigns k t = some s) : s.length ≤ t.size + 2 := by
  have hl : t.data.toList.length = t.size := Array.length_toList
  unfold pxSigns at h
  (repeat' split at h) <;> first | (cases h; done) | (injection h with h; rw [← h]; simp; done) | (injection h with h; rw [← h]; simp; omega)
mutual
theorem cost_few : ∀ (p : Px), pxCost p ≤ 103 * pxFew p
  | .mk k t ps => by
    rw [pxCost_mk, pxFew_mk]
    have h1 := costs_few ps
    split
    · omega
    · cases hs : pxSigns k t with
      | none => simp; omega
      | some s =>
        have := signs_len hs
        simp only [Option.getD_some]
        omega
theorem costs_few : ∀ (l : List Px), pxCosts l ≤ 103 * pxFews l
  | [] => by rw [pxCosts_nil]; omega
  | p :: l => by
    rw [pxCosts_cons, pxFews_cons]
    have h1 := cost_few p
    have h2 := costs_few l
    omega
end
theorem few_pos (p : Px) : 1 ≤ pxFew p := by obtain ⟨k, t, ps⟩ := p; rw [pxFew_mk]; omega
theorem few_len : ∀ (l : List Px), l.length ≤ pxFews l
  | [] => by simp
  | p :: l => by
    rw [pxFews_cons, List.length_cons]
    have := few_len l
    have := few_pos p
    omega
mutual
theorem small_few : ∀ (p : Px), pxFew p ≤ 1000000 → pxSmall p
  | .mk k t ps, h => by
    rw [pxFew_mk] at h
    have := few_len ps
    unfold pxSmall
    exact ⟨by omega, by omega, smalls_few ps (by omega)⟩
theorem smalls_few : ∀ (l : List Px), pxFews l ≤ 1000000 → pxSmallL l
  | [], _ => by unfold pxSmallL; trivial
  | p :: l, h => by
    rw [pxFews_cons] at h
    unfold pxSmallL
    exact ⟨small_few p (by omega), smalls_few l (by omega)⟩
end

set_option maxRecDepth 100000 in
set_option maxHeartbeats 6400000 in
theorem lawPrints_any (p : Px) (a : Int) (v : Value) (w : World) (hfit : pxFit p) (hrow : PxRow w w.heap.size v p.parts) : Calls Try.prog 5 #[.agg #[.int .i64 p.kind, .int .i64 a, .string p.text, v]] w (RBool true w) := by
  have Hf := fun o => hid (fixed3_any (w.alloc o))
  have hfew := few_any p hfit
  have hst : pxFew p ≤ 500 → pxSmall p ∧ pxCost p ≤ 60000 := fun h => ⟨small_few p (by omega), by have := cost_few p; omega⟩
  have hprint := fun (h : pxFew p ≤ 500) W hr => Print_any p a v W (hst h).1 hr
  have href := fun (h : pxFew p ≤ 500) => rprint_any p (hst h).1 (by have := (hst h).2; omega)
  have hsame := fun (h : pxFew p ≤ 500) => same_any p (hst h).1
  have hgood : ∀ (h : pxFew p ≤ 500), pxWf 0 p → ∃ y, wrExpr p 0 wrStart = some y ∧ y.out = pxTxt p ∧ (bz y.out).size ≤ 65536 ∧ pxRead (bz y.out) = some [p] := fun h hw => by
    obtain ⟨y, hy, -⟩ := wr_of_wf p 0 wrStart hw (show pxCost p ≤ 65536 by have := (hst h).2; omega)
    have e : y.out = pxTxt p := by have := (wrExpr_out p 0 wrStart y hy).1; simpa [wrStart] using this
    refine ⟨y, hy, e, ?_, pxRead_of (read_back hy)⟩
    rw [bz_size, e]
    have := txt_le p
    have := (hst h).2
    omega
  have hbad : ¬ pxWf 0 p → wrExpr p 0 wrStart = none := fun h => by
    cases hw : wrExpr p 0 wrStart with
    | none => rfl
    | some y => exact absurd (wf_of_wr p 0 wrStart y (by omega) hw) h
  unfold FewP at hfew
  unfold RefP at href
  unfold SameP at hsame
  generalize wrExpr p 0 wrStart = R at *
  generalize hF : pxFew p = F at *
  obtain ⟨k, t, ps⟩ := p
  simp only [Px.kind, Px.text, Px.parts] at *
  obtain ⟨pv, cv, rfl⟩ := hrow.form
  have Hfew := hid hfew; have Hprint := hid hprint; have Href := hid href; have Hsame := hid hsame; have Hgood := hid hgood; have Hbad := hid hbad; have Hrow := hid hrow
  clear hfew hprint href hsame hgood hbad hrow hst hF hfit
  go_enter Try.func5, Try.ntmps5
  go_wp2_with fail
  refine (Hf _).out.mono ?_
  rintro e w1 ⟨rfl, hb1⟩
  have hbx : w1.heap[w.heap.size]? = some (.cells #[.int .i64 k, .int .i64 a, .string t, .slice pv ps.length cv] 30 (0, 0)) := (hb1.block _ (by simp)).trans (heap_alloc_new w _)
  have hz1 : w.heap.size < w1.heap.size := by have := hb1.size; simp at this; omega
  have HB1 := hid ((below1 w _).trans (hb1.mono (by simp : w.heap.size ≤ _))); have Hbx := hid hbx
  clear hb1 hbx Hf
  go_upto_region 4 with fail
  generalize hW : World.alloc w1 _ = W2
  have hb2 : Below w1.heap.size w1 W2 := by rw [← hW]; exact below1 _ _
  have hl2 : LeftAt W2 w1.heap.size 500 := by rw [← hW]; exact heap_alloc_new w1 _
  have hbx2 := (hb2.block _ hz1).trans Hbx.out
  have g0 := cell_of_row W2 _ 0 _ _ (0, 0) hbx2; have g1 := cell_of_row W2 _ 1 _ _ (0, 0) hbx2; have g2 := cell_of_row W2 _ 2 _ _ (0, 0) hbx2; have g3 := cell_of_row W2 _ 3 _ _ (0, 0) hbx2
  have hr2 := (Hrow.out.stay (HB1.out.trans (hb2.mono HB1.out.size))).mono (Nat.le_of_lt hz1)
  have hcall := Hfew.out w1.heap.size w1.heap.size 500 a _ W2 (by decide) (by decide) (Nat.le_refl _) hb2.size hl2 hr2
  have Hcall := hid hcall; have HB2 := hid hb2; have Hr2 := hid hr2; have Hbx2 := hid hbx2
  clear hW hb2 hl2 hbx2 hr2 hcall Hfew Hbx Hrow
  go_wp2_with fail
  refine Hcall.out.mono ?_
  rintro e w3 ⟨hb3, h3⟩
  have HB3 := hid (HB1.out.trans ((HB2.out.trans hb3.bel).mono HB1.out.size))
  have hbx3 := (hb3.bel.block _ hz1).trans Hbx2.out
  have hz3 : w1.heap.size ≤ w3.heap.size := Nat.le_trans HB2.out.size hb3.bel.size
  have Hr3 := hid ((Hr2.out.stay hb3.bel).mono hz3)
  clear hb3 g0 g1 g2 g3 Hr2 Hbx2
  by_cases hfw : ((F : Nat) : Int) ≤ 500
  · rw [if_pos hfw] at h3
    obtain ⟨rfl, -⟩ := h3
    have hF5 : F ≤ 500 := by omega
    have g0 := cell_of_row w3 _ 0 _ _ (0, 0) hbx3; have g1 := cell_of_row w3 _ 1 _ _ (0, 0) hbx3; have g2 := cell_of_row w3 _ 2 _ _ (0, 0) hbx3; have g3 := cell_of_row w3 _ 3 _ _ (0, 0) hbx3
    have Hpr := hid (Hprint.out hF5 w3 Hr3.out)
    have Href := hid (Href.out hF5); have Hsame := hid (Hsame.out hF5); have Hgood := hid (Hgood.out hF5); have Hbx3 := hid hbx3
    clear hbx3 Hprint hfw hF5
    go_wp2_with fail
    refine Hpr.out.mono ?_
    rintro e w4 ⟨hb4, h4⟩
    have hbx4 := (hb4.block _ (lt_of_heap Hbx3.out)).trans Hbx3.out
    have HB4 := hid (HB3.out.trans (hb4.mono HB3.out.size))
    have Hr4 := hid ((Hr3.out.stay hb4).mono hb4.size)
    have hz4 : w.heap.size < w4.heap.size := lt_of_heap hbx4
    clear g0 g1 g2 g3
    have g0 := cell_of_row w4 _ 0 _ _ (0, 0) hbx4; have g1 := cell_of_row w4 _ 1 _ _ (0, 0) hbx4; have g2 := cell_of_row w4 _ 2 _ _ (0, 0) hbx4; have g3 := cell_of_row w4 _ 3 _ _ (0, 0) hbx4
    have Hrf := hid (Href.out w4.heap.size 0 a _ w4 (by decide) (Nat.le_refl _) Hr4.out)
    have Hbx4 := hid hbx4
    clear hbx4 Hr3 hb4 Hpr Href Hbx3
    by_cases hw : pxWf 0 (.mk k t ps)
    · obtain ⟨y, hy, hyt, hys, hyr⟩ := Hgood.out hw
      subst hy
      simp only at h4
      subst h4
      rw [show (⟨y.out.toArray⟩ : ByteArray) = bz y.out from rfl]
      have hrd := fun W => Read_px (bz y.out) W hys
      rw [hyr] at hrd
      have Hrd := hid hrd
      have Hw := hid hw
      clear hrd hyr hw hys Hgood Hbad
      rw [hyt] at Hrd ⊢
      clear hyt
      go_wp2_with fail
      refine Hrf.out.mono ?_
      rintro e w5 ⟨r, hr, hb5, h5⟩
      rcases hr with ⟨-, rfl⟩ | ⟨hn, -⟩
      · simp only at h5
        subst h5
        have hbx5 := (hb5.block _ (lt_of_heap Hbx4.out)).trans Hbx4.out
        have HB5 := hid (HB4.out.trans (hb5.mono HB4.out.size)); have Hbx5 := hid hbx5
        have Hr5 := hid ((Hr4.out.stay hb5).mono hb5.size)
        clear hb5 hbx5 g0 g1 g2 g3 Hr4 Hbx4 Hrf
        generalize bz (pxTxt (.mk k t ps)) = S at *
        go_wp2_with fail
        refine (Hrd.out w5).mono ?_
        rintro e w6 ⟨hb6, v6, rfl, hrow6, -⟩
        obtain ⟨p6, c6, rfl⟩ := hrow6.form
        obtain ⟨rb, off, a6, vi, hp6, hrb, m0, m1, m2, m3, mrow⟩ := hrow6.at 0 (by simp)
        subst hp6
        have mr := mrow
        obtain ⟨pi, ci, rfl⟩ := mr.form
        simp only [List.getElem_cons_zero, Px.kind, Px.text, Px.parts, Nat.zero_mul, Nat.add_zero, List.length_cons, List.length_nil, Nat.zero_add] at m0 m1 m2 m3 mrow
        have hbx6 := (hb6.block _ (lt_of_heap Hbx5.out)).trans Hbx5.out
        have hxz : w.heap.size < w6.heap.size := lt_of_heap hbx6
        have hcall : ∀ W, Below w6.heap.size w6 W → Calls Try.prog 14 #[.agg #[.int .i64 k, .int .i64 a6, .string t, .slice pi ps.length ci], .agg #[.int .i64 k, .int .i64 a, .string t, .slice pv ps.length cv], .bool false] W fun e w' => e = .returned (.bool true) ∧ Below W.heap.size W w' := fun W hb =>
          Hsame.out w6.heap.size a6 a _ _ W hb.size (mrow.stay hb) (((Hr5.out.stay hb6).mono hb6.size).stay hb)
        have HS : Hid (∀ w', Below w6.heap.size w6 w' → w'.cell? ⟨w.heap.size, 0, none⟩ = some (.int .i64 k) ∧ w'.cell? ⟨w.heap.size, 1, none⟩ = some (.int .i64 a) ∧ w'.cell? ⟨w.heap.size, 2, none⟩ = some (.string t) ∧ w'.cell? ⟨w.heap.size, 3, none⟩ = some (.slice pv ps.length cv) ∧
            w'.cell? ⟨rb, off, none⟩ = some (.int .i64 k) ∧ w'.cell? ⟨rb, off + 1, none⟩ = some (.int .i64 a6) ∧ w'.cell? ⟨rb, off + 2, none⟩ = some (.string t) ∧ w'.cell? ⟨rb, off + 3, none⟩ = some (.slice pi ps.length ci) ∧ Below w6.heap.size w6 w') := fun w' hb =>
          ⟨(hb.cell (p := ⟨w.heap.size, 0, none⟩) hxz).trans (cell_of_row w6 _ 0 _ _ (0, 0) hbx6), (hb.cell (p := ⟨w.heap.size, 1, none⟩) hxz).trans (cell_of_row w6 _ 1 _ _ (0, 0) hbx6), (hb.cell (p := ⟨w.heap.size, 2, none⟩) hxz).trans (cell_of_row w6 _ 2 _ _ (0, 0) hbx6), (hb.cell (p := ⟨w.heap.size, 3, none⟩) hxz).trans (cell_of_row w6 _ 3 _ _ (0, 0) hbx6),
           (hb.cell (p := ⟨rb, off, none⟩) hrb).trans m0, (hb.cell (p := ⟨rb, off + 1, none⟩) hrb).trans m1, (hb.cell (p := ⟨rb, off + 2, none⟩) hrb).trans m2, (hb.cell (p := ⟨rb, off + 3, none⟩) hrb).trans m3, hb⟩
        have Hcall := hid hcall
        have HB6 := hid (HB5.out.trans (hb6.mono HB5.out.size))
        clear hcall hb6 hrow6 hbx6 mrow mr Hsame Hr5 Hbx5 m0 m1 m2 m3 Hrd
        go_upto_region 13 with fail
        go_region_held3 (fun w' => w'.cell? ⟨w.heap.size, 0, none⟩ = some (.int .i64 k) ∧ w'.cell? ⟨w.heap.size, 1, none⟩ = some (.int .i64 a) ∧ w'.cell? ⟨w.heap.size, 2, none⟩ = some (.string t) ∧ w'.cell? ⟨w.heap.size, 3, none⟩ = some (.slice pv ps.length cv) ∧
            w'.cell? ⟨rb, off, none⟩ = some (.int .i64 k) ∧ w'.cell? ⟨rb, off + 1, none⟩ = some (.int .i64 a6) ∧ w'.cell? ⟨rb, off + 2, none⟩ = some (.string t) ∧ w'.cell? ⟨rb, off + 3, none⟩ = some (.slice pi ps.length ci) ∧ Below w6.heap.size w6 w')
          (first | exact HS.out _ (Below.drew (Below.refl _ _)) | (refine HS.out _ (Below.goS hb ?_); go_split_ands; assumption))
          (first
            | (go_at_call 14; refine (Hcall.out _ (by go_split_ands; assumption)).mono ?_; rintro e w7 ⟨rfl, hb⟩))
        all_goals
          have HB7 := hid (HB6.out.trans ((Below.goS hb (Below.drew (Below.refl _ _))).mono HB6.out.size))
          clear hb
          go_split_ands
          go_wp2_with fail
          go_ret
          exact ⟨rfl, HB7.out⟩
      · exact absurd Hw.out hn
    · have hR := Hbad.out hw
      subst hR
      simp only at h4
      subst h4
      have Hw := hid hw
      clear hw Hgood Hbad
      go_wp2_with fail
      refine Hrf.out.mono ?_
      rintro e w5 ⟨r, hr, hb5, h5⟩
      rcases hr with ⟨hn, -⟩ | ⟨-, rfl⟩
      · exact absurd hn Hw.out
      · simp only at h5
        subst h5
        have HB5 := hid (HB4.out.trans (hb5.mono HB4.out.size))
        clear hb5
        go_wp2_with fail
        go_ret
        exact ⟨rfl, HB5.out⟩
  · rw [if_neg hfw] at h3
    subst h3
    go_wp2_with fail
    go_ret
    exact ⟨rfl, HB3.out⟩
end Go.Proofs.Ytcpkejonpnmljaa
/- An expression that comes in as data: how it reads. -/
namespace Go.Proofs.Ytcpkejonpnmljaa
open Go.ChangeShapes Go.WideShapes Go.ChangeAt Go.RowKit

theorem laidOutX : laidOutB Try.prog = true := by kernel_rfl
theorem fieldsExpr : ∃ f0 f1 f2 f3 : Field, Try.prog.underlying 30 = some (.struct #[f0, f1, f2, f3]) ∧ f0.type = 3 ∧ f1.type = 3 ∧ f2.type = 9 ∧ f3.type = 24 ∧ f0.offset = 0 ∧ f1.offset = 1 ∧ f2.offset = 2 ∧ f3.offset = 3 :=
  ⟨_, _, _, _, Try.underlying30, rfl, rfl, rfl, rfl, rfl, rfl, rfl, rfl⟩
theorem cellsExpr : Try.prog.cellsOf 30 = 4 := by kernel_rfl
theorem cellsI : Try.prog.cellsOf 3 = 1 := by kernel_rfl
theorem cellsS : Try.prog.cellsOf 9 = 1 := by kernel_rfl
theorem cellsL : Try.prog.cellsOf 24 = 1 := by kernel_rfl
theorem pxFitL_of {l : List Px} (h : ∀ p ∈ l, pxFit p) : pxFitL l := by
  induction l with
  | nil => unfold pxFitL; trivial
  | cons p l ih => unfold pxFitL; exact ⟨h p (by simp), ih fun q hq => h q (by simp [hq])⟩
/-- a row of expressions, out of what is known of each -/
theorem row_of {w : World} {N : Nat} (b off cap len : Nat) (hN : b < N ∨ len = 0) (sp : Option Addr) (hsp : 0 < len → sp = some ⟨b, off, none⟩)
    (h : ∀ i : Fin len, ∃ x : Px × Int × Value, w.cell? ⟨b, off + i.1 * 4, none⟩ = some (.int .i64 x.1.kind) ∧ w.cell? ⟨b, off + i.1 * 4 + 1, none⟩ = some (.int .i64 x.2.1) ∧ w.cell? ⟨b, off + i.1 * 4 + 2, none⟩ = some (.string x.1.text) ∧ w.cell? ⟨b, off + i.1 * 4 + 3, none⟩ = some x.2.2 ∧ PxRow w N x.2.2 x.1.parts ∧ pxFit x.1) :
    ∃ l : List Px, l.length = len ∧ PxRow w N (.slice sp len cap) l ∧ ∀ p ∈ l, pxFit p := by
  obtain ⟨f, hf⟩ := Classical.axiomOfChoice h
  by_cases hl : len = 0
  · subst hl
    exact ⟨[], rfl, .nil _ _, fun p hp => by cases hp⟩
  · have hb : b < N := by omega
    rw [hsp (by omega)]
    refine ⟨List.ofFn fun i => (f i).1, by simp, .row b off len cap _ (fun i => if h : i < len then (f ⟨i, h⟩).2.1 else 0) (fun i => if h : i < len then (f ⟨i, h⟩).2.2 else undef) (by simp) hb (fun i hi => ?_) (fun i hi => ?_) (fun i hi => ?_) (fun i hi => ?_) (fun i hi => ?_), fun p hp => ?_⟩
    · have hi' : i < len := by simpa using hi
      rw [List.getElem_ofFn]; exact (hf ⟨i, hi'⟩).1
    · have hi' : i < len := by simpa using hi
      simp only [dif_pos hi']; exact (hf ⟨i, hi'⟩).2.1
    · have hi' : i < len := by simpa using hi
      rw [List.getElem_ofFn]; exact (hf ⟨i, hi'⟩).2.2.1
    · have hi' : i < len := by simpa using hi
      simp only [dif_pos hi']; exact (hf ⟨i, hi'⟩).2.2.2.1
    · have hi' : i < len := by simpa using hi
      rw [List.getElem_ofFn]; simp only [dif_pos hi']; exact (hf ⟨i, hi'⟩).2.2.2.2.1
    · rw [List.mem_ofFn] at hp
      obtain ⟨i, rfl⟩ := hp
      exact (hf i).2.2.2.2.2
section
variable {H : Type} {enc : TypeId × Value → H} {w : World} {base : Nat} {spare : Nat → Bool} {held : Bool}
theorem cells4 {a : Addr} {cs : List Value} (h : w.cells? base a 4 = some cs) : ∃ c0 c1 c2 c3, cs = [c0, c1, c2, c3] ∧ w.cell? (a.add 0) = some c0 ∧ w.cell? (a.add 1) = some c1 ∧ w.cell? (a.add 2) = some c2 ∧ w.cell? (a.add 3) = some c3 := by
  unfold World.cells? at h
  split at h
  · have hl := mapM_some_length h
    simp at hl
    match cs, hl with
    | [c0, c1, c2, c3], _ => exact ⟨c0, c1, c2, c3, rfl, mapM_some_get h 0 0 rfl, mapM_some_get h 1 1 rfl, mapM_some_get h 2 2 rfl, mapM_some_get h 3 3 rfl⟩
  · cases h
theorem spot_none {b off : Nat} {sp : Option _} {v : Value} (h : w.cell? ((⟨b, off, sp⟩ : Addr)) = some v) : sp = none := by
  cases sp with
  | none => rfl
  | some x =>
    exfalso
    revert h
    unfold World.cell?
    split <;> simp
set_option maxRecDepth 100000 in
theorem open_slice (n : Nat) (ihn : ∀ m, m < n → ∀ cs x, DataW.trod enc Try.prog w base spare held m 30 cs = some x → ∃ (p : Px) (a : Int) (v : Value), cs = [.int .i64 p.kind, .int .i64 a, .string p.text, v] ∧ PxRow w w.heap.size v p.parts ∧ pxFit p)
    (cs : List Value) (x : DataW H × List MemPlace) (h : DataW.trod enc Try.prog w base spare held n 24 cs = some x) : ∃ v l, cs = [v] ∧ PxRow w w.heap.size v l ∧ l.length ≤ 9223372036854775807 ∧ pxFitL l := by
  rcases DataW.trod_slice Try.underlying24 h with ⟨rfl, -⟩ | ⟨a, len, cap, elems, rest, m, rfl, rfl, -, hb, hl, hm, hel, hget, -, -⟩
  · exact ⟨_, [], rfl, .nil _ _, by simp, by unfold pxFitL; trivial⟩
  · obtain ⟨b, off, sp⟩ := a
    rw [cellsExpr] at hget
    have hsp0 : 0 < len → sp = none := fun h0 => by
      have hg := hget 0 h0
      rw [List.getElem?_eq_getElem (by omega)] at hg
      obtain ⟨ci, h1, -⟩ := Option.bind_eq_some_iff.1 hg
      obtain ⟨c0, c1, c2, c3, -, k0, -⟩ := cells4 h1
      simp only [Nat.zero_mul, Addr.add] at k0
      exact spot_none k0
    have hone : ∀ i, i < len → sp = none ∧ b < w.heap.size ∧ ∃ y : Px × Int × Value, w.cell? ⟨b, off + i * 4, none⟩ = some (.int .i64 y.1.kind) ∧ w.cell? ⟨b, off + i * 4 + 1, none⟩ = some (.int .i64 y.2.1) ∧ w.cell? ⟨b, off + i * 4 + 2, none⟩ = some (.string y.1.text) ∧ w.cell? ⟨b, off + i * 4 + 3, none⟩ = some y.2.2 ∧ PxRow w w.heap.size y.2.2 y.1.parts ∧ pxFit y.1 := by
      intro i hi
      have hg := hget i hi
      rw [List.getElem?_eq_getElem (by omega)] at hg
      obtain ⟨ci, h1, h2⟩ := Option.bind_eq_some_iff.1 hg
      obtain ⟨p, a, v, rfl, hp, hfit⟩ := ihn m (by omega) ci _ h2
      obtain ⟨c0, c1, c2, c3, he, k0, k1, k2, k3⟩ := cells4 h1
      injection he with e0 he; injection he with e1 he; injection he with e2 he; injection he with e3 _
      subst e0 e1 e2 e3
      have hsp : sp = none := hsp0 (by omega)
      subst hsp
      simp only [add_plain] at k0 k1 k2 k3
      exact ⟨rfl, World.block_lt_of_cell? w _ k0, ⟨p, a, v⟩, k0, k1, k2, k3, hp, hfit⟩
    obtain ⟨l, hl1, hl2, hl3⟩ := row_of (w := w) (N := w.heap.size) b off cap len (by
        rcases Nat.eq_zero_or_pos len with h0 | h0
        · exact .inr h0
        · exact .inl (hone 0 h0).2.1) (some ⟨b, off, sp⟩) (fun h0 => by rw [(hone 0 h0).1]) (fun i => (hone i.1 i.2).2.2)
    exact ⟨_, l, rfl, hl2, by unfold maxLen at hm; omega, pxFitL_of hl3⟩
set_option maxRecDepth 100000 in
theorem open_ex : ∀ (fuel : Nat) (cs : List Value) (x : DataW H × List MemPlace), DataW.trod enc Try.prog w base spare held fuel 30 cs = some x → ∃ (p : Px) (a : Int) (v : Value), cs = [.int .i64 p.kind, .int .i64 a, .string p.text, v] ∧ PxRow w w.heap.size v p.parts ∧ pxFit p := by
  intro fuel
  induction fuel using Nat.strongRecOn with
  | _ fuel ih =>
    intro cs x h
    obtain ⟨f0, f1, f2, f3, hs, e0, e1, e2, e3, o0, o1, o2, o3⟩ := fieldsExpr
    obtain ⟨xs, n, rfl, rfl, hl, hlen, hf⟩ := DataW.trod_struct hs h
    rw [cellsExpr] at hl
    match cs, hl, xs, hlen with
    | [c0, c1, c2, c3], _, [y0, y1, y2, y3], _ =>
      have h0 := hf 0 f0 rfl
      have h1 := hf 1 f1 rfl
      have h2 := hf 2 f2 rfl
      have h3 := hf 3 f3 rfl
      rw [e0, o0, cellsI] at h0
      rw [e1, o1, cellsI] at h1
      rw [e2, o2, cellsS] at h2
      rw [e3, o3, cellsL] at h3
      obtain ⟨k, g0, -, -⟩ := DataW.trod_int Try.underlying3 (show DataW.trod enc Try.prog w base spare held n 3 [c0] = some y0 from h0)
      obtain ⟨a, g1, -, -⟩ := DataW.trod_int Try.underlying3 (show DataW.trod enc Try.prog w base spare held n 3 [c1] = some y1 from h1)
      obtain ⟨t, g2, -, ht⟩ := DataW.trod_string Try.underlying9 (show DataW.trod enc Try.prog w base spare held n 9 [c2] = some y2 from h2)
      obtain ⟨v, l, g3, hr, hll, hfl⟩ := open_slice n (fun m hm => ih m (by omega)) [c3] y3 h3
      injection g0 with g0 _; injection g1 with g1 _; injection g2 with g2 _; injection g3 with g3 _
      subst g0 g1 g2 g3
      exact ⟨.mk k t l, a, c3, rfl, hr, by unfold pxFit; exact ⟨by unfold maxLen at ht; omega, hll, hfl⟩⟩
/-- an expression by value -/
theorem open_expr {r : Reach} {b0 : Nat} {v : Value} {d : DataW H} {p : List MemPlace} (hv : Value.okWide Try.prog w r b0 30 v) (h : DataW.Trod enc Try.prog w base spare held 30 v d p) :
    ∃ (q : Px) (a : Int) (u : Value), v = .agg #[.int .i64 q.kind, .int .i64 a, .string q.text, u] ∧ PxRow w w.heap.size u q.parts ∧ pxFit q := by
  obtain ⟨f0, f1, f2, f3, hs, -⟩ := fieldsExpr
  obtain ⟨cs, rfl, hsz⟩ := okWide_struct hs hv
  obtain ⟨fuel, hf⟩ := h
  obtain ⟨q, a, u, hcs, hr, hfit⟩ := open_ex fuel _ _ hf
  refine ⟨q, a, u, ?_, hr, hfit⟩
  obtain ⟨l⟩ := cs
  have : l = [.int .i64 q.kind, .int .i64 a, .string q.text, u] := by simpa [Value.cells] using hcs
  rw [this]
end
end Go.Proofs.Ytcpkejonpnmljaa
/- Two texts on lines of their own are read as both; a row of expressions by its cells. -/
namespace Go.Proofs.Ytcpkejonpnmljaa
open Go.RowKit

theorem tw_ext {q : UInt8 → Bool} {d : UInt8} (hd : q d = false) : ∀ (l u : List UInt8), (l ++ d :: u).takeWhile q = l.takeWhile q ∧ (l ++ d :: u).dropWhile q = l.dropWhile q ++ d :: u
  | [], u => by simp [List.takeWhile_cons, List.dropWhile_cons, hd]
  | a :: l, u => by
    obtain ⟨h1, h2⟩ := tw_ext hd l u
    by_cases ha : q a = true
    · simp [List.takeWhile_cons, List.dropWhile_cons, ha, h1, h2]
    · simp [List.takeWhile_cons, List.dropWhile_cons, ha]
theorem tw_in {q : UInt8 → Bool} {d : UInt8} {r : List UInt8} : ∀ (l v : List UInt8), l.dropWhile q = d :: r → (l ++ v).takeWhile q = l.takeWhile q ∧ (l ++ v).dropWhile q = d :: (r ++ v)
  | [], v, h => by cases h
  | a :: l, v, h => by
    by_cases ha : q a = true
    · rw [List.dropWhile_cons, if_pos ha] at h
      obtain ⟨h1, h2⟩ := tw_in l v h
      simp [List.takeWhile_cons, List.dropWhile_cons, ha, h1, h2]
    · rw [List.dropWhile_cons, if_neg ha] at h
      injection h with h3 h4
      subst h3 h4
      simp [List.takeWhile_cons, List.dropWhile_cons, ha]
theorem rdStep_ext {c : UInt8} {t r : List UInt8} {f f1 : List (List Px)} {l l1 : List Px} (u : List UInt8) (h : rdStep c t f l = .ok (r, f1, l1)) : rdStep c (t ++ 10 :: u) f l = .ok (r ++ 10 :: u, f1, l1) := by
  have s10 : sxSign (10 : UInt8).toNat = false := by decide +kernel
  obtain ⟨a1, a2⟩ := tw_ext (q := fun x => sxSign x.toNat) s10 (c :: t) u
  obtain ⟨b1, b2⟩ := tw_ext (q := fun x => sxSign x.toNat) s10 t u
  obtain ⟨c1, c2⟩ := tw_ext (q := fun x => x != 10) (d := 10) (by decide) (c :: t) u
  rw [List.cons_append] at a1 a2 c1 c2
  unfold rdStep at h ⊢
  split at h
  · cases h
  · cases h; rfl
  · cases h; rw [c2]
  · cases h; rw [a1, a2]
  · rw [a1, a2]
    split at h
    · next hn => cases h; rw [if_pos hn]
    · cases h
  · split at h
    · cases h
    · next d r' hd =>
      obtain ⟨d1, d2⟩ := tw_in t (10 :: u) hd
      rw [d1, d2]
      split at h
      · next h5 => cases h; simp only; rw [if_pos h5]
      · cases h
  · rw [b1, b2]
    split at h
    · cases h
    · next hn => cases h; rw [if_neg hn]
  · split at h
    · cases h
    · next hn => cases h; rw [if_neg hn]
  · split at h
    · cases h
    · next y hy => cases h; rfl
theorem Rd.join {x u : List UInt8} {f f1 f2 : List (List Px)} {l l1 l2 : List Px} (h : Rd x f l f1 l1) (h2 : Rd (10 :: u) f1 l1 f2 l2) : Rd (x ++ 10 :: u) f l f2 l2 := by
  induction h with
  | nil => exact h2
  | step hs _ ih => exact .step (rdStep_ext u hs) (ih h2)
/-- more expressions ahead, outside all lists -/
def preF (P : List Px) : List (List Px) → List (List Px)
  | [] => []
  | y :: f => (P ++ y) :: f
def preL (P : List Px) (f : List (List Px)) (l : List Px) : List Px := if f = [] then P ++ l else l
theorem preL_snoc (P : List Px) (f : List (List Px)) (l m : List Px) : preL P f (l ++ m) = preL P f l ++ m := by unfold preL; split <;> simp
theorem rdStep_pre {c : UInt8} {t r : List UInt8} {f f1 : List (List Px)} {l l1 : List Px} (P : List Px) (h : rdStep c t f l = .ok (r, f1, l1)) : rdStep c t (preF P f) (preL P f l) = .ok (r, preF P f1, preL P f1 l1) := by
  unfold rdStep at h ⊢
  split at h
  · cases h
  · cases h; rfl
  · cases h; rfl
  · cases h; rw [preL_snoc]
  · split at h
    · next hn => cases h; rw [if_pos hn, preL_snoc]
    · cases h
  · split at h
    · cases h
    · next d r' hd =>
      split at h
      · next h5 => cases h; rw [if_pos h5, preL_snoc]
      · cases h
  · split at h
    · cases h
    · next hn => cases h; rw [if_neg hn, preL_snoc]
  · split at h
    · cases h
    · next hn =>
      cases h
      cases f with
      | nil => simp [preF, preL]
      | cons y f =>
        have e : (preF P (y :: f)).length ≠ 64 := by simpa [preF] using hn
        rw [if_neg e]
        simp [preF, preL]
  · split at h
    · cases h
    · next y hy =>
      cases h
      rcases List.eq_nil_or_concat f with rfl | ⟨f0, z, rfl⟩
      · cases hy
      · rw [List.concat_eq_append] at *
        simp at hy
        subst hy
        cases f0 with
        | nil => simp [preF, preL]
        | cons a f0 =>
          have : ((P ++ a) :: (f0 ++ [z])).getLast? = some z := by
            show (((P ++ a) :: f0) ++ [z]).getLast? = _
            exact List.getLast?_concat
          simp only [List.cons_append, preF, this]
          have e2 : ((P ++ a) :: (f0 ++ [z])).dropLast = (P ++ a) :: f0 := by show (((P ++ a) :: f0) ++ [z]).dropLast = _; exact List.dropLast_concat
          have e3 : (a :: (f0 ++ [z])).dropLast = a :: f0 := by show ((a :: f0) ++ [z]).dropLast = _; exact List.dropLast_concat
          rw [e2, e3]
          simp [preF, preL]
theorem Rd.pre {x : List UInt8} {f f2 : List (List Px)} {l l2 : List Px} (P : List Px) (h : Rd x f l f2 l2) : Rd x (preF P f) (preL P f l) (preF P f2) (preL P f2 l2) := by
  induction h with
  | nil => exact .nil _ _
  | step hs _ ih => exact .step (rdStep_pre P hs) ih
theorem join_px {s t u : ByteArray} {P Q : List Px} (hs : pxRead s = some P) (ht : pxRead t = some Q) (hu : u.data.toList = s.data.toList ++ 10 :: t.data.toList) : pxRead u = some (P ++ Q) := by
  refine pxRead_of ?_
  rw [hu]
  have h1 := pxRead_some hs
  have h2 := (pxRead_some ht).pre P
  have e : ∀ m, preL P [] m = P ++ m := fun m => by unfold preL; rw [if_pos rfl]
  rw [e, e, List.append_nil] at h2
  have s10 : sxSort (10 : UInt8).toNat = 1 := by decide +kernel
  refine h1.join (.step (r := t.data.toList) (f1 := []) (l1 := P) ?_ h2)
  unfold rdStep
  rw [s10]
  rfl

/-- the cells of a row of expressions -/
inductive RowCells (w : World) (N : Nat) : List Value → List Px → Prop
  | nil : RowCells w N [] []
  | cons (a : Int) (v : Value) (p : Px) (xs : List Value) (l : List Px) (hp : PxRow w N v p.parts) (h : RowCells w N xs l) : RowCells w N (.int .i64 p.kind :: .int .i64 a :: .string p.text :: v :: xs) (p :: l)
theorem RowCells.len {w : World} {N : Nat} {xs : List Value} {l : List Px} (h : RowCells w N xs l) : xs.length = l.length * 4 := by
  induction h with
  | nil => rfl
  | cons a v p xs l hp _ ih => simp only [List.length_cons, ih]; omega
theorem RowCells.app {w : World} {N : Nat} {xs ys : List Value} {l m : List Px} (h : RowCells w N xs l) (h2 : RowCells w N ys m) : RowCells w N (xs ++ ys) (l ++ m) := by
  induction h with
  | nil => exact h2
  | cons a v p xs l hp _ ih => exact .cons a v p _ _ hp ih
theorem RowCells.stayC {w w' : World} {N : Nat} {xs : List Value} {l : List Px} (h : RowCells w N xs l) (hb : Below N w w') : RowCells w' N xs l := by
  induction h with
  | nil => exact .nil
  | cons a v p xs l hp _ ih => exact .cons a v p _ _ (hp.stay hb) ih
theorem PxRow.one {w : World} {N : Nat} {v : Value} {l : List Px} (h : PxRow w N v l) : v.oneCell' = true := by
  obtain ⟨p, c, rfl⟩ := h.form; rfl
theorem RowCells.one {w : World} {N : Nat} {xs : List Value} {l : List Px} (h : RowCells w N xs l) : ∀ u ∈ xs, u.oneCell' = true := by
  induction h with
  | nil => intro u hu; cases hu
  | cons a v p xs l hp _ ih =>
    intro u hu
    simp only [List.mem_cons] at hu
    rcases hu with rfl | rfl | rfl | rfl | hu
    · rfl
    · rfl
    · rfl
    · exact hp.one
    · exact ih u hu
theorem RowCells.atC {w : World} {N : Nat} {xs : List Value} {l : List Px} (h : RowCells w N xs l) : ∀ (i : Nat) (hi : i < l.length), ∃ a v, xs[i * 4]? = some (.int .i64 (l[i]'hi).kind) ∧ xs[i * 4 + 1]? = some (.int .i64 a) ∧ xs[i * 4 + 2]? = some (.string (l[i]'hi).text) ∧ xs[i * 4 + 3]? = some v ∧ PxRow w N v (l[i]'hi).parts := by
  induction h with
  | nil => intro i hi; exact absurd hi (by simp)
  | cons a v p xs l hp _ ih =>
    intro i hi
    cases i with
    | zero => exact ⟨a, v, rfl, rfl, rfl, rfl, hp⟩
    | succ i =>
      obtain ⟨a', v', h0, h1, h2, h3, h4⟩ := ih i (by simpa using hi)
      refine ⟨a', v', ?_, ?_, ?_, ?_, ?_⟩
      · rw [show (i + 1) * 4 = i * 4 + 1 + 1 + 1 + 1 by omega]; simpa using h0
      · rw [show (i + 1) * 4 + 1 = i * 4 + 1 + 1 + 1 + 1 + 1 by omega]; simpa using h1
      · rw [show (i + 1) * 4 + 2 = i * 4 + 2 + 1 + 1 + 1 + 1 by omega]; simpa using h2
      · rw [show (i + 1) * 4 + 3 = i * 4 + 3 + 1 + 1 + 1 + 1 by omega]; simpa using h3
      · simpa using h4
/-- a row's cells, from its slice -/
theorem PxRow.cells {w : World} {N n c : Nat} {ad : Addr} {l : List Px} (h : PxRow w N (.slice (some ad) n c) l) : ∃ xs, RowCells w N xs l ∧ ∀ j u, xs[j]? = some u → w.cell? (ad.add j) = some u := by
  cases h with
  | nil => exact ⟨[], .nil, fun j u hj => by cases hj⟩
  | row b off n c l ats vs hn hb h0 h1 h2 h3 hp =>
    have key : ∀ m i, i + m = l.length → ∃ xs, RowCells w N xs (l.drop i) ∧ ∀ j u, xs[j]? = some u → w.cell? ⟨b, off + i * 4 + j, none⟩ = some u := by
      intro m
      induction m with
      | zero => intro i hi; rw [List.drop_of_length_le (by omega)]; exact ⟨[], .nil, fun j u hj => by cases hj⟩
      | succ m ih =>
        intro i hi
        obtain ⟨xs, hx, hc⟩ := ih (i + 1) (by omega)
        have hil : i < l.length := by omega
        rw [List.drop_eq_getElem_cons hil]
        refine ⟨_, .cons (ats i) (vs i) (l[i]'hil) xs _ (hp i hil) hx, fun j u hj => ?_⟩
        match j, hj with
        | 0, hj => simp at hj; subst hj; exact h0 i hil
        | 1, hj => simp at hj; subst hj; exact h1 i hil
        | 2, hj => simp at hj; subst hj; exact h2 i hil
        | 3, hj => simp at hj; subst hj; exact h3 i hil
        | j + 4, hj =>
          have := hc j u (by simpa using hj)
          rw [show off + i * 4 + (j + 4) = off + (i + 1) * 4 + j by omega]
          exact this
    obtain ⟨xs, hx, hc⟩ := key l.length 0 (by omega)
    refine ⟨xs, by simpa using hx, fun j u hj => ?_⟩
    have := hc j u hj
    rw [Go.WideShapes.add_plain]
    simpa using this
end Go.Proofs.Ytcpkejonpnmljaa
/- elenchuslaw03.SexpBlanks. -/
namespace Go.Proofs.Ytcpkejonpnmljaa
open Go.RowKit

theorem len10 {vs : List Value} (h : vs.length = 10) : ∃ a b c d e f g h i j, vs = [a, b, c, d, e, f, g, h, i, j] := by
  match vs, h with
  | [a, b, c, d, e, f, g, h, i, j], _ => exact ⟨a, b, c, d, e, f, g, h, i, j, rfl⟩
/-- what stands between two expressions -/
def gapL : Nat → List UInt8
  | 0 => [32]
  | 1 => [10]
  | 2 => [9, 32]
  | 3 => [32, 59, 32, 97, 32, 40, 114, 101, 109, 97, 114, 107, 10]
  | _ => [13, 10]
def gapAt (how : List Nat) (i : Nat) : List UInt8 := if i < how.length then gapL (how.getD i 0 % 5) else [32]
def blT (how : List Nat) : List Px → Nat → List UInt8
  | [], _ => []
  | p :: l, i => pxTxt p ++ (gapAt how i ++ blT how l (i + 1))
theorem blT_snoc (how : List Nat) : ∀ (l : List Px) (i : Nat) (p : Px), blT how (l ++ [p]) i = blT how l i ++ (pxTxt p ++ gapAt how (i + l.length))
  | [], i, p => by simp [blT]
  | a :: l, i, p => by
    have := blT_snoc how l (i + 1) p
    simp only [List.cons_append, blT, this, List.length_cons, List.append_assoc]
    rw [show i + 1 + l.length = i + (l.length + 1) by omega]
theorem gapL_len (k : Nat) : (gapL k).length ≤ 13 := by
  match k with
  | 0 => decide
  | 1 => decide
  | 2 => decide
  | 3 => decide
  | k + 4 => exact (by decide : ([13, 10] : List UInt8).length ≤ 13)
theorem gapAt_len (how : List Nat) (i : Nat) : (gapAt how i).length ≤ 13 := by
  unfold gapAt; split
  · exact gapL_len _
  · decide
theorem blT_len (how : List Nat) : ∀ (l : List Px) (i : Nat), (blT how l i).length ≤ pxCosts l + 13 * l.length
  | [], i => by simp [blT]
  | p :: l, i => by
    have h1 := blT_len how l (i + 1)
    have h2 := txt_le p
    have h3 := gapAt_len how i
    rw [pxCosts_cons]
    simp only [blT, List.length_append, List.length_cons]
    omega
theorem Rd_blank {c : UInt8} {t : List UInt8} {f f2 : List (List Px)} {l l2 : List Px} (hc : sxSort c.toNat = 1) (h : Rd t f l f2 l2) : Rd (c :: t) f l f2 l2 := by
  refine .step (r := t) (f1 := f) (l1 := l) ?_ h
  unfold rdStep
  rw [hc]
  rfl
theorem Rd_gap (k : Nat) {t : List UInt8} {f f2 : List (List Px)} {l l2 : List Px} (h : Rd t f l f2 l2) : Rd (gapL k ++ t) f l f2 l2 := by
  match k with
  | 0 => exact Rd_blank (by decide +kernel) h
  | 1 => exact Rd_blank (by decide +kernel) h
  | 2 => exact Rd_blank (by decide +kernel) (Rd_blank (by decide +kernel) h)
  | 3 =>
    refine Rd_blank (by decide +kernel) (.step (r := 10 :: t) (f1 := f) (l1 := l) ?_ (Rd_blank (by decide +kernel) h))
    have h2 : sxSort (59 : UInt8).toNat = 2 := by decide +kernel
    unfold rdStep
    rw [h2]
    rfl
  | k + 4 => exact Rd_blank (by decide +kernel) (Rd_blank (by decide +kernel) h)
theorem Rd_gapAt (how : List Nat) (i : Nat) {t : List UInt8} {f f2 : List (List Px)} {l l2 : List Px} (h : Rd t f l f2 l2) : Rd (gapAt how i ++ t) f l f2 l2 := by
  unfold gapAt; split
  · exact Rd_gap _ h
  · exact Rd_gap 0 h
theorem gapAt_sign (how : List Nat) (i : Nat) (t : List UInt8) : NonSign (gapAt how i ++ t) := by
  have : ∀ k, NonSign (gapL k ++ t) := fun k => by
    match k with
    | 0 => exact nonSign_cons (by decide +kernel)
    | 1 => exact nonSign_cons (by decide +kernel)
    | 2 => exact nonSign_cons (by decide +kernel)
    | 3 => exact nonSign_cons (by decide +kernel)
    | k + 4 => exact nonSign_cons (by decide +kernel)
  unfold gapAt; split
  · exact this _
  · exact this 0
theorem Rd_blT (how : List Nat) : ∀ (l : List Px) (i : Nat) (P : List Px), (∀ p ∈ l, ∃ y, wrExpr p 0 wrStart = some y) → Rd (blT how l i) [] P [] (P ++ l)
  | [], i, P, _ => by simp only [blT, List.append_nil]; exact .nil _ _
  | p :: l, i, P, h => by
    obtain ⟨y, hy⟩ := h p (by simp)
    have ih := Rd_blT how l (i + 1) (P ++ [p]) (fun q hq => h q (by simp [hq]))
    rw [List.append_assoc] at ih
    exact Rd_px p 0 wrStart y [] P (gapAt how i ++ blT how l (i + 1)) [] (P ++ (p :: l)) hy rfl (gapAt_sign _ _ _) (Rd_gapAt how i ih)

theorem few_mem {l : List Px} : ∀ p ∈ l, pxFew p ≤ pxFews l := by
  induction l with
  | nil => intro p hp; cases hp
  | cons a l ih =>
    intro p hp
    rw [pxFews_cons]
    rcases List.mem_cons.1 hp with rfl | hp
    · omega
    · have := ih p hp; omega

set_option maxRecDepth 100000 in
set_option maxHeartbeats 6400000 in
theorem lawBlanks_any (l : List Px) (how : List Nat) (v vh : Value) (w : World) (hfit : pxFitL l) (hll : l.length ≤ 9223372036854775807) (hrow : PxRow w w.heap.size v l) (hh : At w .u8 vh how) : Calls Try.prog 8 #[v, vh] w (RBool true w) := by
  have Hf := fun w => hid (fixed3_any w)
  obtain ⟨pv, cv, rfl⟩ := hrow.form
  have hlli : (l.length : Int) ≤ 9223372036854775807 := by omega
  have hh' := hh
  obtain ⟨ph, ch, rfl, hh1, hh2, -, hq4⟩ := hh'
  have hhl : (how.length : Int) ≤ 9223372036854775807 := by unfold maxLen at hh2; omega
  have hh4 : ∀ i, i < how.length → ∃ b off, ph = some ⟨b, off, none⟩ ∧ b < w.heap.size ∧ w.cell? ⟨b, off + i, none⟩ = some (.int .u8 (how.getD i 0 : Nat)) := fun i hi => by
    obtain ⟨b, off, e1, e2, e3⟩ := hq4 (by omega)
    refine ⟨b, off, e1, e2, ?_⟩
    rw [e3 i hi]
    simp only [List.getD, List.getElem?_eq_getElem hi, Option.getD_some]
  clear hq4
  by_cases h20 : l.length ≤ 20
  · have h20' : decide ((20 : Int) < (l.length : Int)) = false := by simp; omega
    by_cases h40 : how.length ≤ 40
    · have h40' : decide ((40 : Int) < (how.length : Int)) = false := by simp; omega
      obtain ⟨n, hn⟩ : ∃ n, n = l.length := ⟨_, rfl⟩
      obtain ⟨m, hm⟩ : ∃ m, m = how.length := ⟨_, rfl⟩
      have hfew := fun i (h : i < l.length) => few_any (l[i]'h) (by
        have : ∀ (l : List Px), pxFitL l → ∀ i (h : i < l.length), pxFit (l[i]'h) := by
          intro l
          induction l with
          | nil => intro _ i h; exact absurd h (by simp)
          | cons p l ih =>
            intro hs i h
            unfold pxFitL at hs
            cases i with
            | zero => exact hs.1
            | succ i => exact ih hs.2 i (by simpa using h)
        exact this l hfit i h)
      have Hrow := hid hrow; have Hfew := hid hfew; have Hh := hid hh; have Hh4 := hid hh4; have Hhow := hid hm
      rw [← hn] at h20' hlli ⊢
      rw [← hm] at h40' hhl Hh4 ⊢
      have Hn := hid hn; have Hm := hid hm
      have n20 : (n : Int) ≤ 20 := by omega
      rw [← hn] at Hrow
      clear hrow hfew hh hh4 hfit hn hm hll hh1 hh2
      go_enter Try.func8, Try.ntmps8
      go_wp2_with fail
      refine (Hf _).out.mono ?_
      rintro e w1 ⟨rfl, hb1⟩
      have HB1 := hid hb1
      clear hb1 Hf
      go_upto_region 6 with fail
      generalize hW : World.alloc w1 _ = W2
      have hb2 : Below w1.heap.size w1 W2 := by rw [← hW]; exact below1 _ _
      have hl2 : LeftAt W2 w1.heap.size 400 := by rw [← hW]; exact heap_alloc_new w1 _
      have HL2 := hid hl2; have HB2 := hid hb2
      have HF2 := hid (FrI.of_below (Nat.le_refl _) hb2)
      clear hW hb2 hl2
      have e0 : (⟨#[]⟩ : ByteArray) = bz (blT how (l.take 0) 0) := rfl
      rw [e0]
      clear e0
      go_wp2_with fail
      go_loopw [6, 28] (fun s i wr => ∃ j : Nat, j ≤ n ∧ i = .int .i64 (j : Nat) ∧ s = .string (bz (blT how (l.take j) 0)) ∧ Hid (∃ L : Int, LeftAt wr w1.heap.size L ∧ L = 400 - (pxFews (l.take j) : Nat) ∧ 0 ≤ L) ∧ Hid (∀ p ∈ l.take j, ∃ y, wrExpr p 0 wrStart = some y) ∧ Hid (FrI w1.heap.size w1 wr)) (fun _ i _ => n - (RowKit.intOf i).toNat)
      case atStart => exact ⟨0, Nat.zero_le _, rfl, rfl, ⟨400, HL2.out, by rw [List.take_zero, pxFews_nil]; rfl, by decide⟩, fun p hp => by simp at hp, HF2⟩
      case round =>
        obtain ⟨j, hj, rfl, rfl, hlf, hpr, hbr⟩ := hrel
        by_cases hlt : j < n
        · have hlt' : (j : Int) < (n : Int) := by omega
          have hlp : j < l.length := by have := Hn.out; omega
          obtain ⟨rb, off, ai, vi, hpp, hrb, k0, k1, k2, k3, krow⟩ := (Hrow.out.stay (HB1.out.trans (hbr.out.bel.mono HB1.out.size))).at j hlp
          subst hpp
          have kr := krow
          obtain ⟨pi, ci, rfl⟩ := kr.form
          have hfw := Hfew.out j hlp
          unfold FewP at hfw
          have htk : l.take (j + 1) = l.take j ++ [l[j]'hlp] := List.take_succ_eq_append_getElem hlp
          have hft : pxFews (l.take (j + 1)) = pxFews (l.take j) + pxFew (l[j]'hlp) := by rw [htk, pxFews_app, pxFews_cons, pxFews_nil]; omega
          have hbt : blT how (l.take (j + 1)) 0 = blT how (l.take j) 0 ++ (pxTxt (l[j]'hlp) ++ gapAt how j) := by
            rw [htk, blT_snoc, Nat.zero_add, List.length_take, Nat.min_eq_left (by omega)]
          have hps : pxFew (l[j]'hlp) ≤ 400 → ∀ W, PxRow W W.heap.size (.slice pi (l[j]'hlp).parts.length ci) (l[j]'hlp).parts → Calls Try.prog 12 #[.agg #[.int .i64 (l[j]'hlp).kind, .int .i64 ai, .string (l[j]'hlp).text, .slice pi (l[j]'hlp).parts.length ci]] W (RPrint (wrExpr (l[j]'hlp) 0 wrStart) W) := fun h W hr => Print_any (l[j]'hlp) ai _ W (small_few _ (by omega)) hr
          have hpn : ∀ y, wrExpr (l[j]'hlp) 0 wrStart = some y → y.out = pxTxt (l[j]'hlp) ∧ ∀ p ∈ l.take (j + 1), ∃ y, wrExpr p 0 wrStart = some y := fun y hy => by
            refine ⟨by have := (wrExpr_out _ 0 wrStart y hy).1; simpa [wrStart] using this, fun p hp => ?_⟩
            rw [htk, List.mem_append] at hp
            rcases hp with hp | hp
            · exact hpr.out p hp
            · obtain rfl : p = l[j]'hlp := by simpa using hp
              exact ⟨y, hy⟩
          have htl : pxFew (l[j]'hlp) ≤ 400 → (pxTxt (l[j]'hlp)).length ≤ 41200 := fun h => by
            have h1 := txt_le (l[j]'hlp); have h2 := cost_few (l[j]'hlp); omega
          have hbl : pxFews (l.take j) ≤ 400 → (blT how (l.take j) 0).length ≤ 41500 := fun h => by
            have h1 := blT_len how (l.take j) 0
            have h2 := costs_few (l.take j)
            have h3 : (l.take j).length ≤ 20 := by rw [List.length_take]; omega
            omega
          generalize l[j]'hlp = X at *
          obtain ⟨K, T, qs⟩ := X
          simp only [Px.kind, Px.text, Px.parts] at *
          obtain ⟨S0, hS0⟩ : ∃ S0, S0 = bz (blT how (l.take j) 0) := ⟨_, rfl⟩
          rw [← hS0]
          have HS0 := hid hS0; have Hfw := hid hfw; have Hft := hid hft; have Hbt := hid hbt; have Hps := hid hps; have Hpn := hid hpn; have Htl := hid htl; have Hbl := hid hbl; have Hk := hid krow
          clear hS0 hfw hft hbt hps hpn htl hbl krow kr hpr htk
          go_upto_region 10 with fail
          generalize hW : World.alloc wr _ = W3
          have hb3 : Below wr.heap.size wr W3 := by rw [← hW]; exact below1 _ _
          have hzr : w1.heap.size ≤ wr.heap.size := hbr.out.bel.size
          have hbx : W3.heap[wr.heap.size]? = some (.cells #[.int .i64 K, .int .i64 ai, .string T, .slice pi qs.length ci] 30 (0, 0)) := by rw [← hW]; exact heap_alloc_new wr _
          obtain ⟨L, hl3, hL, hL0⟩ := hlf.out
          have hl3 : LeftAt W3 w1.heap.size L := (hb3.block _ (lt_of_heap hl3)).trans hl3
          have g0 := cell_of_row W3 _ 0 _ _ (0, 0) hbx; have g1 := cell_of_row W3 _ 1 _ _ (0, 0) hbx; have g2 := cell_of_row W3 _ 2 _ _ (0, 0) hbx; have g3 := cell_of_row W3 _ 3 _ _ (0, 0) hbx
          have HB3 := hid (hbr.out.trans (FrI.of_below hzr hb3)); have Hbx := hid hbx
          have Hk3 := hid (Hk.out.stay (hb3.mono (Nat.le_trans HB1.out.size hzr)))
          have hcall := Hfw.out w1.heap.size w1.heap.size L ai _ W3 hL0 (by omega) (Nat.le_refl _) HB3.out.bel.size hl3 (Hk3.out.mono HB1.out.size)
          have Hcall := hid hcall; have HLv := hid hL; have HL0 := hid hL0
          clear hW hb3 hbx hl3 hcall Hfw Hk k0 k1 k2 k3 hlf hL hL0
          go_wp2_with fail
          refine Hcall.out.mono ?_
          rintro e w4 ⟨hb4, h4⟩
          have HB4 := hid (HB3.out.trans hb4)
          have hbx4 := (hb4.kept _ _ _ _ Hbx.out (by decide)).trans Hbx.out
          have Hk4 := hid (Hk3.out.stay (hb4.bel.mono HB1.out.size))
          clear hb4 g0 g1 g2 g3 Hk3 Hbx Hcall
          by_cases hF : ((pxFew (.mk K T qs) : Nat) : Int) ≤ L
          · rw [if_pos hF] at h4
            obtain ⟨rfl, hl4⟩ := h4
            have hF4 : pxFew (.mk K T qs) ≤ 400 := by have := HLv.out; omega
            have g0 := cell_of_row w4 _ 0 _ _ (0, 0) hbx4; have g1 := cell_of_row w4 _ 1 _ _ (0, 0) hbx4; have g2 := cell_of_row w4 _ 2 _ _ (0, 0) hbx4; have g3 := cell_of_row w4 _ 3 _ _ (0, 0) hbx4
            have Hpr := hid (Hps.out hF4 w4 (Hk4.out.mono (Nat.le_trans HB1.out.size HB4.out.bel.size)))
            have Htl := Htl.out hF4
            have Hbl := Hbl.out (by have := HLv.out; have := HL0.out; omega)
            have HL4 := hid hl4
            have Hnx : Hid (L - ((pxFew (.mk K T qs) : Nat) : Int) = 400 - (pxFews (l.take (j + 1)) : Nat) ∧ 0 ≤ L - ((pxFew (.mk K T qs) : Nat) : Int)) := ⟨by have := HLv.out; have := Hft.out; omega, by omega⟩
            clear hbx4 hl4 Hps hF hF4 HLv HL0 Hft Hk4
            generalize wrExpr (.mk K T qs) 0 wrStart = R at *
            go_wp2_with fail
            refine Hpr.out.mono ?_
            rintro e w5 ⟨hb5, h5⟩
            have HB5 := hid (HB4.out.trans (FrI.of_below HB4.out.bel.size hb5))
            have HL5 : Hid (LeftAt w5 w1.heap.size (L - ((pxFew (.mk K T qs) : Nat) : Int))) := (hb5.block _ (lt_of_heap HL4.out)).trans HL4.out
            clear hb5 g0 g1 g2 g3 HL4 Hpr
            cases R with
            | none =>
              simp only at h5
              subst h5
              have HT := hid (HB1.out.trans (HB5.out.bel.mono HB1.out.size))
              go_wp2_with fail
              go_ret
              exact ⟨rfl, HT.out⟩
            | some y =>
              obtain ⟨hy, hall⟩ := Hpn.out y rfl
              simp only at h5
              rw [show (⟨y.out.toArray⟩ : ByteArray) = bz y.out from rfl, hy] at h5
              subst h5
              have Hall := hid hall
              clear hall hy Hpn
              obtain ⟨S1, hS1⟩ : ∃ S1, S1 = bz (blT how (l.take (j + 1)) 0) := ⟨_, rfl⟩
              have ad : ∀ g, g = gapAt how j → (∀ w, (Op.stringOp .add (bz (pxTxt (.mk K T qs))) (bz g)).run Try.prog w = .ok (.string (bz (pxTxt (.mk K T qs) ++ g))) w) ∧ (∀ w, (Op.stringOp .add S0 (bz (pxTxt (.mk K T qs) ++ g))).run Try.prog w = .ok (.string S1) w) := fun g hg => by
                have hgl : g.length ≤ 13 := by rw [hg]; exact gapAt_len _ _
                refine ⟨fun w => run_bz _ _ _ w (by omega), fun w => ?_⟩
                rw [HS0.out, run_bz _ _ _ w (by rw [List.length_append]; omega), hS1, Hbt.out, hg]
              have Ad := hid ad; have HS1 := hid hS1
              clear ad hS1 Hbt HS0 Htl Hbl
              generalize bz (pxTxt (.mk K T qs)) = S2 at *
              by_cases hjm : j < m
              · have hjm' : decide ((j : Int) < (m : Int)) = true := by simp; omega
                have hjmi : (j : Int) < (m : Int) := by omega
                obtain ⟨hb, hoff, hph, hbw, hcj⟩ := Hh4.out j hjm
                subst hph
                have hcw : ∀ o, (w5.alloc o).cell? ⟨hb, hoff + j, none⟩ = some (.int .u8 (how.getD j 0 : Nat)) := fun o =>
                  ((below1 w5 o).cell (p := ⟨hb, _, none⟩) (Nat.lt_of_lt_of_le hbw (Nat.le_trans HB1.out.size HB5.out.bel.size))).trans ((HB5.out.bel.cell (p := ⟨hb, _, none⟩) (Nat.lt_of_lt_of_le hbw HB1.out.size)).trans ((HB1.out.cell (p := ⟨hb, _, none⟩) hbw).trans hcj))
                have hg : gapL (how.getD j 0 % 5) = gapAt how j := by
                  unfold gapAt; rw [if_pos (by have := Hm.out; omega)]
                obtain ⟨ad1, ad2⟩ := Ad.out _ hg
                generalize how.getD j 0 = hv at *
                obtain ⟨kk, hkk⟩ : ∃ kk, kk = hv % 5 := ⟨_, rfl⟩
                have k5 : kk < 5 := by omega
                have k5i : (kk : Int) < 5 := by omega
                have e5 : (hv : Int) % 5 = (kk : Nat) := by omega
                rw [← hkk] at ad1 ad2
                have hstr : (w5.alloc (.cells #[.string ⟨#[32]⟩, .string ⟨#[10]⟩, .string ⟨#[9, 32]⟩, .string ⟨#[32, 59, 32, 97, 32, 40, 114, 101, 109, 97, 114, 107, 10]⟩, .string ⟨#[13, 10]⟩] 9)).cell? ⟨w5.heap.size, kk, none⟩ = some (.string (bz (gapL kk))) := by
                  rw [cell_of_row _ w5.heap.size kk _ _ (0, 0) (heap_alloc_new w5 _)]
                  match kk, k5 with
                  | 0, _ => rfl
                  | 1, _ => rfl
                  | 2, _ => rfl
                  | 3, _ => rfl
                  | 4, _ => rfl
                generalize bz (gapL kk) = G at *
                generalize bz (pxTxt (.mk K T qs) ++ gapL kk) = S3 at *
                have HB6 := hid (HB5.out.trans (FrI.of_below HB5.out.bel.size (below1 w5 (.cells #[.string ⟨#[32]⟩, .string ⟨#[10]⟩, .string ⟨#[9, 32]⟩, .string ⟨#[32, 59, 32, 97, 32, 40, 114, 101, 109, 97, 114, 107, 10]⟩, .string ⟨#[13, 10]⟩] 9))))
                have HL6 : Hid (LeftAt (w5.alloc (.cells #[.string ⟨#[32]⟩, .string ⟨#[10]⟩, .string ⟨#[9, 32]⟩, .string ⟨#[32, 59, 32, 97, 32, 40, 114, 101, 109, 97, 114, 107, 10]⟩, .string ⟨#[13, 10]⟩] 9)) w1.heap.size (L - ((pxFew (.mk K T qs) : Nat) : Int))) := ((below1 w5 _).block _ (lt_of_heap HL5.out)).trans HL5.out
                clear hg Ad hcj hkk HL5 HB5
                go_wp2_with fail
                go_roundw
                case rel => exact ⟨j + 1, by omega, by go_num, by rw [HS1.out], ⟨_, HL6.out, Hnx.out.1, Hnx.out.2⟩, Hall.out, HB6⟩
                case measure => (simp [RowKit.intOf] <;> omega)
              · have hjm' : decide ((j : Int) < (m : Int)) = false := by simp; omega
                have hg : ([32] : List UInt8) = gapAt how j := by
                  unfold gapAt; rw [if_neg (by have := Hm.out; omega)]
                obtain ⟨ad1, ad2⟩ := Ad.out [32] hg
                have ad1 : ∀ w, (Op.stringOp .add S2 ⟨#[32]⟩).run Try.prog w = .ok (.string (bz (pxTxt (.mk K T qs) ++ [32]))) w := ad1
                generalize bz (pxTxt (.mk K T qs) ++ [32]) = S3 at *
                clear hg Ad
                go_wp2_with fail
                go_roundw
                case rel => exact ⟨j + 1, by omega, by go_num, by rw [HS1.out], ⟨_, HL5.out, Hnx.out.1, Hnx.out.2⟩, Hall.out, HB5⟩
                case measure => (simp [RowKit.intOf] <;> omega)
          · rw [if_neg hF] at h4
            subst h4
            have HT := hid (HB1.out.trans (HB4.out.bel.mono HB1.out.size))
            clear hF
            go_wp2_with fail
            go_ret
            exact ⟨rfl, HT.out⟩
        · obtain rfl : n = j := by omega
          have hfin : l.take n = l := by rw [Hn.out]; exact List.take_length
          rw [hfin] at hlf hpr ⊢
          obtain ⟨L, -, hL, hL0⟩ := hlf.out
          have hF4 : pxFews l ≤ 400 := by omega
          have hsz : (bz (blT how l 0)).size ≤ 65536 := by
            rw [bz_size]
            have h1 := blT_len how l 0
            have h2 := costs_few l
            have h3 := Hn.out
            omega
          have hrd := fun W => Read_px (bz (blT how l 0)) W hsz
          rw [pxRead_of (s := bz (blT how l 0)) (P := l) (Rd_blT how l 0 [] hpr.out)] at hrd
          have hsm : ∀ p ∈ l, pxSmall p := fun p hp => small_few p (by have := few_mem p hp; omega)
          have Hrd := hid hrd; have Hsm := hid hsm
          clear hlf hpr hL hL0 hF4 hsz hrd hsm hlt
          have HBr := hid (HB1.out.trans (hbr.out.bel.mono HB1.out.size))
          clear hbr
          generalize bz (blT how l 0) = S at *
          go_wp2_with fail
          refine (Hrd.out wr).mono ?_
          rintro e w6 ⟨hb6, v6, rfl, hrow6, -⟩
          obtain ⟨p6, c6, rfl⟩ := hrow6.form
          rw [← Hn.out]
          rw [← Hn.out] at hrow6
          have HB6 := hid (HBr.out.trans (hb6.mono HBr.out.size)); have Hrow6 := hid hrow6
          have Hrow' := hid ((Hrow.out.stay HB6.out).mono HB6.out.size)
          clear hb6 hrow6 Hrd
          go_wp2_with fail
          go_loopw [78] (fun i wr => ∃ j : Nat, j ≤ n ∧ i = .int .i64 (j : Nat) ∧ Hid (Below w6.heap.size w6 wr)) (fun i _ => n - (RowKit.intOf i).toNat)
          case atStart => exact ⟨0, Nat.zero_le _, rfl, Below.refl _ _⟩
          case round =>
            obtain ⟨j, hj, rfl, hbr⟩ := hrel
            by_cases hlt : j < n
            · have hlt' : (j : Int) < (n : Int) := by omega
              have hlp : j < l.length := by have := Hn.out; omega
              obtain ⟨rb1, off1, a1', vi1, hp1, hrb1, k0, k1, k2, k3, krow1⟩ := (Hrow'.out.stay hbr.out).at j hlp
              obtain ⟨rb2, off2, a2', vi2, hp2, hrb2, l0, l1, l2, l3, krow2⟩ := (Hrow6.out.stay hbr.out).at j hlp
              subst hp1 hp2
              have kr1 := krow1; have kr2 := krow2
              obtain ⟨pi1, ci1, rfl⟩ := kr1.form
              obtain ⟨pi2, ci2, rfl⟩ := kr2.form
              clear kr1 kr2
              have hsame := same_any (l[j]'hlp) (Hsm.out _ (List.getElem_mem hlp))
              unfold SameP at hsame
              generalize l[j]'hlp = X at *
              obtain ⟨K, T, qs⟩ := X
              simp only [Px.kind, Px.text, Px.parts] at *
              have hcall : ∀ W, Below wr.heap.size wr W → Calls Try.prog 14 #[.agg #[.int .i64 K, .int .i64 a1', .string T, .slice pi1 qs.length ci1], .agg #[.int .i64 K, .int .i64 a2', .string T, .slice pi2 qs.length ci2], .bool false] W fun e w' => e = .returned (.bool true) ∧ Below W.heap.size W w' := fun W hb =>
                hsame w6.heap.size a1' a2' _ _ W (Nat.le_trans hbr.out.size hb.size) (krow1.stay (hb.mono hbr.out.size)) (krow2.stay (hb.mono hbr.out.size))
              obtain ⟨q, hq⟩ : ∃ q, q = qs.length := ⟨_, rfl⟩
              rw [← hq] at hcall k3 l3
              have hw1 : rb1 < wr.heap.size := World.block_lt_of_cell? wr _ k0
              have hw2 : rb2 < wr.heap.size := World.block_lt_of_cell? wr _ l0
              have HS : Hid (∀ w', Below wr.heap.size wr w' → w'.cell? ⟨rb1, off1 + j * 4, none⟩ = some (.int .i64 K) ∧ w'.cell? ⟨rb1, off1 + j * 4 + 1, none⟩ = some (.int .i64 a1') ∧ w'.cell? ⟨rb1, off1 + j * 4 + 2, none⟩ = some (.string T) ∧ w'.cell? ⟨rb1, off1 + j * 4 + 3, none⟩ = some (.slice pi1 q ci1) ∧
                  w'.cell? ⟨rb2, off2 + j * 4, none⟩ = some (.int .i64 K) ∧ w'.cell? ⟨rb2, off2 + j * 4 + 1, none⟩ = some (.int .i64 a2') ∧ w'.cell? ⟨rb2, off2 + j * 4 + 2, none⟩ = some (.string T) ∧ w'.cell? ⟨rb2, off2 + j * 4 + 3, none⟩ = some (.slice pi2 q ci2)) := fun w' hb =>
                ⟨(hb.cell (p := ⟨rb1, _, none⟩) hw1).trans k0, (hb.cell (p := ⟨rb1, _, none⟩) hw1).trans k1, (hb.cell (p := ⟨rb1, _, none⟩) hw1).trans k2, (hb.cell (p := ⟨rb1, _, none⟩) hw1).trans k3, (hb.cell (p := ⟨rb2, _, none⟩) hw2).trans l0, (hb.cell (p := ⟨rb2, _, none⟩) hw2).trans l1, (hb.cell (p := ⟨rb2, _, none⟩) hw2).trans l2, (hb.cell (p := ⟨rb2, _, none⟩) hw2).trans l3⟩
              have Hcall := hid hcall
              clear hq hcall hsame k0 k1 k2 k3 l0 l1 l2 l3 krow1 krow2
              go_upto_region 26 with fail
              refine wp_region_facts (w0 := wr) 10 0 [81, 82, 83, 84, 85, 86, 87, 88, 89, 90] [u81, u82, u83, u84, u85, u86, u87, u88, u89, u90]
                (fun i => match i with | 0 => sxEq (.slice (some ⟨rb1, off1, none⟩) n cv) | 1 => sxEq (.int .i64 (j : Nat)) | 2 => sxEq (.pointer (some ⟨rb1, off1 + j * 4, none⟩)) | 3 => sxEq (.agg #[.int .i64 K, .int .i64 a1', .string T, .slice pi1 q ci1]) | 4 => sxEq (.slice (some ⟨rb2, off2, none⟩) n c6) | 5 => sxEq (.int .i64 (j : Nat)) | 6 => sxEq (.pointer (some ⟨rb2, off2 + j * 4, none⟩)) | 7 => sxEq (.agg #[.int .i64 K, .int .i64 a2', .string T, .slice pi2 q ci2]) | 8 => sxEq (.bool true) | _ => sxEq (.bool false)) [] (by kernel_rfl) (by kernel_rfl) (by kernel_rfl) (by kernel_rfl) (by decide) rfl (by kernel_rfl) rfl (by simp) ?he1 ?_ ?_ ?_
              case he1 => simp only [putAll, Act.put, List.setIfInBounds_toArray, List.set_cons_zero, List.set_cons_succ]
              · intro i hi; simp at hi
              · intro i o hi ho vs wx hvl hb hdep K hK
                have hvs := len10 hvl
                obtain ⟨s81, s82, s83, s84, s85, s86, s87, s88, s89, s90, rfl⟩ := hvs
                clear hvl
                have hk := HS.out wx hb
                obtain ⟨k0, k1, k2, k3, l0, l1, l2, l3⟩ := hk
                rcases i with _ | _ | _ | _ | _ | _ | _ | _ | _ | _ | i
                all_goals (simp only [List.getElem?_toArray, List.getElem?_cons_zero, List.getElem?_cons_succ, Option.some.injEq] at ho)
                all_goals try (subst ho)
                all_goals try simp only [putAll, Act.put, List.setIfInBounds_toArray, List.set_cons_zero, List.set_cons_succ]
                · go_simp
                  have hK' := hK.out
                  simp only [putAll, Act.put, List.setIfInBounds_toArray, List.set_cons_zero, List.set_cons_succ] at hK'
                  exact hK' _ _ rfl (Below.refl _ _) (by simp)
                · go_simp
                  have hK' := hK.out
                  simp only [putAll, Act.put, List.setIfInBounds_toArray, List.set_cons_zero, List.set_cons_succ] at hK'
                  exact hK' _ _ rfl (Below.refl _ _) (by simp)
                · have e0 : s81 = _ := hdep ⟨0, .data⟩ (by simp) rfl
                  subst e0
                  have e1 : s82 = _ := hdep ⟨1, .data⟩ (by simp) rfl
                  subst e1
                  go_simp
                  have hK' := hK.out
                  simp only [putAll, Act.put, List.setIfInBounds_toArray, List.set_cons_zero, List.set_cons_succ] at hK'
                  exact hK' _ _ rfl (Below.refl _ _) (by simp)
                · have e2 : s83 = _ := hdep ⟨2, .data⟩ (by simp) rfl
                  subst e2
                  go_simp
                  have hK' := hK.out
                  simp only [putAll, Act.put, List.setIfInBounds_toArray, List.set_cons_zero, List.set_cons_succ] at hK'
                  exact hK' _ _ rfl (Below.refl _ _) (by simp)
                · go_simp
                  have hK' := hK.out
                  simp only [putAll, Act.put, List.setIfInBounds_toArray, List.set_cons_zero, List.set_cons_succ] at hK'
                  exact hK' _ _ rfl (Below.refl _ _) (by simp)
                · go_simp
                  have hK' := hK.out
                  simp only [putAll, Act.put, List.setIfInBounds_toArray, List.set_cons_zero, List.set_cons_succ] at hK'
                  exact hK' _ _ rfl (Below.refl _ _) (by simp)
                · have e4 : s85 = _ := hdep ⟨4, .data⟩ (by simp) rfl
                  subst e4
                  have e5 : s86 = _ := hdep ⟨5, .data⟩ (by simp) rfl
                  subst e5
                  go_simp
                  have hK' := hK.out
                  simp only [putAll, Act.put, List.setIfInBounds_toArray, List.set_cons_zero, List.set_cons_succ] at hK'
                  exact hK' _ _ rfl (Below.refl _ _) (by simp)
                · have e6 : s87 = _ := hdep ⟨6, .data⟩ (by simp) rfl
                  subst e6
                  go_simp
                  have hK' := hK.out
                  simp only [putAll, Act.put, List.setIfInBounds_toArray, List.set_cons_zero, List.set_cons_succ] at hK'
                  exact hK' _ _ rfl (Below.refl _ _) (by simp)
                · have e3 : s84 = _ := hdep ⟨3, .data⟩ (by simp) rfl
                  subst e3
                  have e7 : s88 = _ := hdep ⟨7, .data⟩ (by simp) rfl
                  subst e7
                  go_simp
                  refine (Hcall.out wx hb).mono ?_
                  rintro e wy ⟨rfl, hby⟩
                  go_wp2_with fail
                  have hK' := hK.out
                  simp only [putAll, Act.put, List.setIfInBounds_toArray, List.set_cons_zero, List.set_cons_succ] at hK'
                  exact hK' _ _ rfl hby (by simp)
                · have e8 : s89 = _ := hdep ⟨8, .data⟩ (by simp) rfl
                  subst e8
                  go_simp
                  have hK' := hK.out
                  simp only [putAll, Act.put, List.setIfInBounds_toArray, List.set_cons_zero, List.set_cons_succ] at hK'
                  exact hK' _ _ rfl (Below.refl _ _) (by simp)
                · omega
              · intro vs wx hvl hb hf hdist
                have hvs := len10 hvl
                obtain ⟨s81, s82, s83, s84, s85, s86, s87, s88, s89, s90, rfl⟩ := hvs
                have f9 : s90 = .bool false := hf 9 (by decide)
                subst f9
                clear hf hdist hvl
                refine wpAny_done (by kernel_rfl) ?_ _
                simp only [putAll, Act.put, List.setIfInBounds_toArray, List.set_cons_zero, List.set_cons_succ]
                have HBx := hid (hbr.out.trans (hb.mono hbr.out.size))
                clear hb
                go_wp2_with fail
                go_roundw
                case rel => exact ⟨j + 1, by omega, by go_num, HBx⟩
                case measure => (simp [RowKit.intOf] <;> omega)
            · obtain rfl : n = j := by omega
              have HBx := hid (HB6.out.trans (hbr.out.mono HB6.out.size))
              go_wp2_with fail
              go_ret
              exact ⟨rfl, HBx.out⟩
    · have h40' : decide ((40 : Int) < (how.length : Int)) = true := by simp; omega
      clear hfit hrow hh hh4 hh1 hh2 hll
      generalize l.length = n at *
      generalize how.length = m at *
      go_enter Try.func8, Try.ntmps8
      go_wp2_with fail
      refine (Hf _).out.mono ?_
      rintro e w1 ⟨rfl, hb1⟩
      go_wp2_with fail
      go_ret
      exact ⟨rfl, hb1⟩
  · have h20' : decide ((20 : Int) < (l.length : Int)) = true := by simp; omega
    clear hfit hrow hh hh4 hh1 hh2 hll
    generalize l.length = n at *
    generalize how.length = m at *
    go_enter Try.func8, Try.ntmps8
    go_wp2_with fail
    refine (Hf _).out.mono ?_
    rintro e w1 ⟨rfl, hb1⟩
    go_wp2_with fail
    go_ret
    exact ⟨rfl, hb1⟩
end Go.Proofs.Ytcpkejonpnmljaa
/- A row of expressions, and a row of bytes, that come in as data. -/
namespace Go.Proofs.Ytcpkejonpnmljaa
open Go.ChangeShapes Go.WideShapes Go.ChangeAt Go.RowKit

theorem cellsU8 : Try.prog.cellsOf 5 = 1 := by kernel_rfl
section
variable {H : Type} {enc : TypeId × Value → H} {w : World} {base : Nat} {spare : Nat → Bool} {held : Bool}
theorem open_row {r : Reach} {b0 : Nat} {v : Value} {d : DataW H} {p : List MemPlace} (hv : Value.okWide Try.prog w r b0 24 v) (h : DataW.Trod enc Try.prog w base spare held 24 v d p) :
    ∃ l, PxRow w w.heap.size v l ∧ l.length ≤ 9223372036854775807 ∧ pxFitL l := by
  obtain ⟨a, len, cap, rfl⟩ := okWide_slice Try.underlying24 hv
  obtain ⟨fuel, hf⟩ := h
  obtain ⟨v', l, he, h1, h2, h3⟩ := open_slice fuel (fun m _ => open_ex m) _ _ hf
  have : v' = .slice a len cap := by simpa [Value.cells] using he.symm
  rw [this] at h1
  exact ⟨l, h1, h2, h3⟩
theorem wf_u8 {n : Int} (h : (Lit.int .u8 n).wf = true) : 0 ≤ n ∧ n < 256 := by
  have h' : (decide (IntKind.u8.min ≤ n) && decide (n ≤ IntKind.u8.max)) = true := h
  have e1 : IntKind.u8.min = 0 := by decide
  have e2 : IntKind.u8.max = 255 := by decide
  rw [e1, e2] at h'
  simp only [Bool.and_eq_true, decide_eq_true_eq] at h'
  omega
theorem open_bytes {r : Reach} {b0 : Nat} {v : Value} {d : DataW H} {p : List MemPlace} (hv : Value.okWide Try.prog w r b0 23 v) (h : DataW.Trod enc Try.prog w base spare held 23 v d p) :
    ∃ l, At w .u8 v l := by
  obtain ⟨a, len, cap, rfl⟩ := okWide_slice Try.underlying23 hv
  obtain ⟨fuel, hf⟩ := h
  rcases open_ints Try.underlying23 Try.underlying5 cellsU8 hf with ⟨he, -⟩ | ⟨a', len', cap', zs, he, hb, hl, hm, hz, -, hc, hwf⟩
  · have he : Value.slice a len cap = .slice none 0 0 := by simpa [Value.cells] using he
    rw [he]
    exact ⟨[], At.nil w .u8⟩
  · have he : Value.slice a len cap = .slice (some a') len' cap' := by simpa [Value.cells] using he
    rw [he]
    have hlz : len' ≤ zs.length := by rw [hz]; split <;> omega
    refine ⟨(zs.take len').map Int.toNat, ?_⟩
    have e : ((zs.take len').map Int.toNat).length = len' := by simp [Nat.min_eq_left hlz]
    refine ⟨some a', cap', by rw [e], by rw [e]; exact hl, hm, nofun, fun h0 => ?_⟩
    rw [e] at h0
    have hs := hc 0 (by omega)
    obtain ⟨b, off, spot⟩ := a'
    cases spot with
    | some x =>
      exfalso
      revert hs
      unfold World.cell? Addr.add
      split <;> simp
    | none =>
      refine ⟨b, off, rfl, World.block_lt_of_cell? w _ hs, fun i hi => ?_⟩
      rw [e] at hi
      have hci := hc i (by omega)
      have hw := wf_u8 (hwf _ (List.getElem_mem (n := i) (l := zs) (by omega)))
      rw [add_plain] at hci
      rw [hci]
      have hg : zs.getD i 0 = zs[i]'(by omega) := by simp [List.getD, show i < zs.length by omega]
      rw [hg]
      simp only [List.getElem_map, List.getElem_take]
      congr 2
      omega
end
end Go.Proofs.Ytcpkejonpnmljaa
