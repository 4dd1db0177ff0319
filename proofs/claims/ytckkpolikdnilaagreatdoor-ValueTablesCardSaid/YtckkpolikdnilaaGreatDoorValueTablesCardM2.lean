/- Texts put together: MkBool, MkRows, VlModel, VlREval, PlChecks, VlEvals, VlMkLaw, VlTabs, VlLawTables, MkOpen, Laid. -/
import Derived.Test.YtckkpolikdnilaaGreatDoorValueTablesCardM1
import Derived.Deep.DeepCutAuto
import Derived.Deep.RegionHeld3
import Derived.Test.YtckkpolikdnilaaGreatDoorCards
import Derived.Test.YtckkpolikdnilaaGreatDoorTie
import Derived.WalkKit
import Derived.ProofKit
import Derived.OpenShut
import Derived.Deep.DeepHandedRow
import Derived.Lib.LaidTab
/- elenchusmake's Bool (made by gen_mkwhole.py). -/
namespace Go.Proofs.YtckkpolikdnilaaGreatDoor
open Go.RowKit Big Go.WideMaps

/-- facts of And's and Or's slots -/
def eqT (v0 : Value) : TFact := ⟨fun v _ => v = v0, fun _ _ _ h _ => h⟩
def rowT : TFact := ⟨fun v w => ∃ g, v = .slice (some ⟨g, 0, none⟩) 2 2 ∧ w.heap[g]? = some (.cells #[.int .i64 6, .int .i64 7] 3 (0, 0)), fun _ _ _ ⟨g, e, h⟩ hb => ⟨g, e, (hb.block g (lt_of_block h)).trans h⟩⟩
def ptrT (k : Nat) : TFact := ⟨fun v w => ∃ g, v = .pointer (some ⟨g, k, none⟩) ∧ w.heap[g]? = some (.cells #[.int .i64 6, .int .i64 7] 3 (0, 0)), fun _ _ _ ⟨g, e, h⟩ hb => ⟨g, e, (hb.block g (lt_of_block h)).trans h⟩⟩
def St (W0 : World) (X : Nat → Prop) (b t : Nat) (vB : Value) (bs : List Nat) (us : List Int) (p2 : Po) (m : Nat) (w2 : World) (a2 : Nat) (p3 : Po) (w : World) : Prop := MkAt W0 X w b t vB bs p3 us ∧ MkExt p2 p3 ∧ IsTm p3 a2 1 ∧ p3.terms.length ≤ p2.terms.length + m ∧ MkFr w2 w
theorem St.go {W0 : World} {X : Nat → Prop} {b t : Nat} {vB : Value} {bs : List Nat} {us : List Int} {p2 : Po} {m : Nat} {w2 : World} {a2 : Nat} {p3 : Po} {w w' : World} (h : St W0 X b t vB bs us p2 m w2 a2 p3 w) (hb : Below w.heap.size w w') : St W0 X b t vB bs us p2 m w2 a2 p3 w' :=
  ⟨h.1.go hb, h.2.1, h.2.2.1, h.2.2.2.1, h.2.2.2.2.trans (MkFr.of_below hb)⟩
def stT (W0 : World) (X : Nat → Prop) (b t : Nat) (vB : Value) (bs : List Nat) (us : List Int) (p2 : Po) (m : Nat) (w2 : World) : TFact := ⟨fun v w => ∃ (a2 : Nat) (p3 : Po), v = .int .i64 (a2 : Nat) ∧ St W0 X b t vB bs us p2 m w2 a2 p3 w, fun _ _ _ ⟨a2, p3, e, h⟩ hb => ⟨a2, p3, e, h.go hb⟩⟩
def argT (W0 : World) (X : Nat → Prop) (b t : Nat) (vB : Value) (bs : List Nat) (us : List Int) (p2 : Po) (m : Nat) (w2 : World) (a1 : Nat) : TFact := ⟨fun v w => ∃ (a2 : Nat) (p3 : Po) (g : Nat), v = .slice (some ⟨g, 0, none⟩) 2 2 ∧ QArg W0 X w (.slice (some ⟨g, 0, none⟩) 2 2) [(a1 : Nat), (a2 : Nat)] ∧ St W0 X b t vB bs us p2 m w2 a2 p3 w, fun _ _ _ ⟨a2, p3, g, e, hq, h⟩ hb => ⟨a2, p3, g, e, hq.later hb, h.go hb⟩⟩
def tmT (W0 : World) (X : Nat → Prop) (b t : Nat) (vB : Value) (bs : List Nat) (us : List Int) (p2 : Po) (m : Nat) (w2 : World) (a1 : Nat) (op : Int) : TFact := ⟨fun v w => ∃ (a2 : Nat) (p3 : Po) (g : Nat), v = .agg #[.int .i64 op, .slice (some ⟨g, 0, none⟩) 2 2, .bool false, .slice none 0 0, .int .i64 0] ∧ QArg W0 X w (.slice (some ⟨g, 0, none⟩) 2 2) [(a1 : Nat), (a2 : Nat)] ∧ St W0 X b t vB bs us p2 m w2 a2 p3 w, fun _ _ _ ⟨a2, p3, g, e, hq, h⟩ hb => ⟨a2, p3, g, e, hq.later hb, h.go hb⟩⟩
set_option maxRecDepth 100000 in
set_option maxHeartbeats 12800000 in
theorem Bool_step {W0 w : World} {X : Nat → Prop} {b t : Nat} {vB : Value} {bs : List Nat} {p : Po} {us : List Int} (h : MkAt W0 X w b t vB bs p us) (deep : Int) (m n : Nat) (hd0 : 0 ≤ deep) (hd1 : deep ≤ 100) (hn2 : 2 ≤ n) (hn3 : 1 ≤ deep → 3 * m + 3 ≤ n) (hn : p.terms.length + n ≤ 4096)
    (hW : 1 ≤ deep → ∀ X w p, MkAt W0 X w b t vB bs p us → p.terms.length + m ≤ 4096 → Calls Tryz.prog 42 #[.pointer (some ⟨b, 0, none⟩), .int .i64 (deep - 1)] w (MkRes W0 X b t vB bs us p m 2 none w))
    (hB : 1 ≤ deep → ∀ X w p, MkAt W0 X w b t vB bs p us → p.terms.length + m ≤ 4096 → Calls Tryz.prog 24 #[.pointer (some ⟨b, 0, none⟩), .int .i64 (deep - 1)] w (MkRes W0 X b t vB bs us p m 1 none w))
    (hZ : 1 ≤ deep → ∀ X w p, MkAt W0 X w b t vB bs p us → p.terms.length + 2 ≤ 4096 → Calls Tryz.prog 24 #[.pointer (some ⟨b, 0, none⟩), .int .i64 0] w (MkRes W0 X b t vB bs us p 2 1 none w)) :
    Calls Tryz.prog 24 #[.pointer (some ⟨b, 0, none⟩), .int .i64 deep] w (MkRes W0 X b t vB bs us p n 1 none w) := by
  have HM0 := hid h
  have c2 := h.cell2
  have Hx := hid (Next_in 13 h.tp (by decide))
  have HWr := hid hW; have HBr := hid hB; have HZr := hid hZ
  clear h hW hB hZ
  go_enter Tryz.func24, Tryz.ntmps24
  go_wp2_with fail
  refine Hx.out.mono ?_
  rintro e w1 ⟨q, rfl, hq, ht, hA⟩
  have hq1 : q < 13 := by omega
  obtain ⟨p1, hp1⟩ : ∃ q, q = p := ⟨_, rfl⟩
  have HM1 := hid (show MkAt W0 X w1 b t vB bs p1 us from hp1 ▸ HM0.out.next ht hA)
  have HF1 := hid (HM0.out.tp.fr hA)
  have HE1 := hid (show MkExt p p1 from hp1 ▸ MkExt.refl p)
  have hl1 : p1.terms.length ≤ p.terms.length := by rw [hp1]; exact Nat.le_refl _
  clear ht hA hq HM0 Hx c2 hp1
  cases hdp : decide (deep < 1)
  case true =>
    have hd2 : deep < 1 := of_decide_eq_true hdp
    obtain ⟨r, hr⟩ : ∃ r : Nat, (q : Int) % 3 = (r : Nat) := ⟨((q : Int) % 3).toNat, by omega⟩
    have hr3 : r < 3 := by omega
    go_upto_region 4 with fail
    generalize hqr : (q : Int) % 3 = qr at *
    subst hr
    clear hqr
    rcases (show r = 0 ∨ r = 1 ∨ r = 2 by omega) with rfl | rfl | rfl
    ·
      have c2 := HM1.out.cell2
      have bq := below1 w1 (.cells #[.int .i64 1, .int .i64 2] 3)
      have hq2 := heap_alloc_new w1 (.cells #[.int .i64 1, .int .i64 2] 3)
      have c2 := (HM1.out.go bq).cell2
      have Hn2 := hid (Next_in 2 (HM1.out.go bq).tp (by decide))
      have HMa := hid (HM1.out.go bq); have HFa := hid (HF1.out.trans (MkFr.of_below bq))
      go_wp2_with fail
      generalize hW : (w1.alloc (.cells #[.int .i64 1, .int .i64 2] 3)) = wa at *
      refine Hn2.out.mono ?_
      rintro e w2 ⟨r2, rfl, hr2, ht2, hA2⟩
      have hf2 := HMa.out.tp.fr hA2
      have q2 := two_cells (hf2.cells hq2 (by decide) (by decide) (by decide))
      obtain ⟨y0, y1, -, -⟩ := q2
      have HM2 := hid (HMa.out.next ht2 hA2); have HF2 := hid (HFa.out.trans hf2); have HE2 := HE1; have hl2 := hl1
      obtain ⟨p2, hp2⟩ : ∃ q, q = p1 := ⟨_, rfl⟩
      subst hp2
      have hr3 : r2 = 0 ∨ r2 = 1 := by omega
      clear hW hq2 hr2 ht2 hA2 hf2 bq c2 Hn2 HMa HFa HM1 HF1 HE1
      rcases hr3 with rfl | rfl
      ·
        have HMa := HM2; have HFa := HF2; have HQ := hid (QArg.nil W0 X w2)
        have hb3 := BMake_any HMa.out ⟨1, [], 0, 0⟩ (.slice none 0 0) false none 0 0 HQ.out (zeroRaw _) (mk_leaf _ 1 (by omega)) (by omega) ⟨by simp, by show sz W 0 ≤ 8; rw [sz_zero]; omega⟩
        rw [show plSort _ ⟨1, [], 0, 0⟩ = 1 from rfl] at hb3
        have Hb3 := hid hb3
        clear hb3 HQ
        go_wp2_with fail
        refine Hb3.out.mono ?_
        rintro e w3 ⟨x, p3, rfl, hm3, he3, hx, -, hl3, hf3⟩
        have HM3 := hid hm3; have HE3 := hid (HE2.out.trans he3); have HF3 := hid (HFa.out.trans hf3)
        have Ix := hid hx
        clear hm3 he3 hf3 hx Hb3 HM2 HE2 HF2 HMa HFa
        have Hfin := hid (show MkRes W0 X b t vB bs us p n 1 none w (.returned (.int .i64 (x : Nat))) w3 from ⟨x, p3, rfl, HM3.out, HE3.out, Ix.out, (fun x e => by cases e), by omega, HF3.out⟩)
        go_wp2
        go_ret
        exact Hfin.out
      ·
        have HMa := HM2; have HFa := HF2; have HQ := hid (QArg.nil W0 X w2)
        have hb3 := BMake_any HMa.out ⟨2, [], 0, 0⟩ (.slice none 0 0) false none 0 0 HQ.out (zeroRaw _) (mk_leaf _ 2 (by omega)) (by omega) ⟨by simp, by show sz W 0 ≤ 8; rw [sz_zero]; omega⟩
        rw [show plSort _ ⟨2, [], 0, 0⟩ = 1 from rfl] at hb3
        have Hb3 := hid hb3
        clear hb3 HQ
        go_wp2_with fail
        refine Hb3.out.mono ?_
        rintro e w3 ⟨x, p3, rfl, hm3, he3, hx, -, hl3, hf3⟩
        have HM3 := hid hm3; have HE3 := hid (HE2.out.trans he3); have HF3 := hid (HFa.out.trans hf3)
        have Ix := hid hx
        clear hm3 he3 hf3 hx Hb3 HM2 HE2 HF2 HMa HFa
        have Hfin := hid (show MkRes W0 X b t vB bs us p n 1 none w (.returned (.int .i64 (x : Nat))) w3 from ⟨x, p3, rfl, HM3.out, HE3.out, Ix.out, (fun x e => by cases e), by omega, HF3.out⟩)
        go_wp2
        go_ret
        exact Hfin.out
    ·
      have HMa := HM1; have HFa := HF1; have HQ := hid (QArg.nil W0 X w1)
      have hb2 := BMake_any HMa.out ⟨1, [], 0, 0⟩ (.slice none 0 0) false none 0 0 HQ.out (zeroRaw _) (mk_leaf _ 1 (by omega)) (by omega) ⟨by simp, by show sz W 0 ≤ 8; rw [sz_zero]; omega⟩
      rw [show plSort _ ⟨1, [], 0, 0⟩ = 1 from rfl] at hb2
      have Hb2 := hid hb2
      clear hb2 HQ
      go_wp2_with fail
      refine Hb2.out.mono ?_
      rintro e w2 ⟨x, p2, rfl, hm2, he2, hx, -, hl2, hf2⟩
      have HM2 := hid hm2; have HE2 := hid (HE1.out.trans he2); have HF2 := hid (HFa.out.trans hf2)
      have Ix := hid hx
      clear hm2 he2 hf2 hx Hb2 HM1 HE1 HF1 HMa HFa
      have Ha3 := hid (app_any HM2.out 0 0 1 0 x (by omega) (by constructor <;> omega) (fun h => absurd h (by decide)) (by omega) Ix.out)
      go_wp2_with fail
      refine Ha3.out.mono ?_
      rintro e w3 ⟨y, p3, rfl, hm3, he3, hy, -, hl3, hf3⟩
      have HM3 := hid hm3; have HE3 := hid (HE2.out.trans he3); have HF3 := hid (HF2.out.trans hf3)
      have Iy := hid hy
      clear hm3 he3 hf3 hy Ha3
      have Hfin := hid (show MkRes W0 X b t vB bs us p n 1 none w (.returned (.int .i64 (y : Nat))) w3 from ⟨y, p3, rfl, HM3.out, HE3.out, Iy.out, (fun x e => by cases e), by omega, HF3.out⟩)
      go_wp2
      go_ret
      exact Hfin.out
    ·
      have HMa := HM1; have HFa := HF1; have HQ := hid (QArg.nil W0 X w1)
      have hb2 := BMake_any HMa.out ⟨1, [], 0, 0⟩ (.slice none 0 0) false none 0 0 HQ.out (zeroRaw _) (mk_leaf _ 1 (by omega)) (by omega) ⟨by simp, by show sz W 0 ≤ 8; rw [sz_zero]; omega⟩
      rw [show plSort _ ⟨1, [], 0, 0⟩ = 1 from rfl] at hb2
      have Hb2 := hid hb2
      clear hb2 HQ
      go_wp2_with fail
      refine Hb2.out.mono ?_
      rintro e w2 ⟨x, p2, rfl, hm2, he2, hx, -, hl2, hf2⟩
      have HM2 := hid hm2; have HE2 := hid (HE1.out.trans he2); have HF2 := hid (HFa.out.trans hf2)
      have Ix := hid hx
      clear hm2 he2 hf2 hx Hb2 HM1 HE1 HF1 HMa HFa
      have Ha3 := hid (app_any HM2.out 0 0 1 0 x (by omega) (by constructor <;> omega) (fun h => absurd h (by decide)) (by omega) Ix.out)
      go_wp2_with fail
      refine Ha3.out.mono ?_
      rintro e w3 ⟨y, p3, rfl, hm3, he3, hy, -, hl3, hf3⟩
      have HM3 := hid hm3; have HE3 := hid (HE2.out.trans he3); have HF3 := hid (HF2.out.trans hf3)
      have Iy := hid hy
      clear hm3 he3 hf3 hy Ha3
      have Hfin := hid (show MkRes W0 X b t vB bs us p n 1 none w (.returned (.int .i64 (y : Nat))) w3 from ⟨y, p3, rfl, HM3.out, HE3.out, Iy.out, (fun x e => by cases e), by omega, HF3.out⟩)
      go_wp2
      go_ret
      exact Hfin.out
  case false =>
    have hd2 : 1 ≤ deep := by have := of_decide_eq_false hdp; omega
    have HW := hid (HWr.out hd2); have HB := hid (HBr.out hd2); have HZ := hid (HZr.out hd2)
    have hn4 := hn3 hd2
    clear HWr HBr HZr
    rcases (show q = 0 ∨ q = 1 ∨ q = 2 ∨ q = 3 ∨ q = 4 ∨ q = 5 ∨ q = 6 ∨ q = 7 ∨ q = 8 ∨ q = 9 ∨ q = 10 ∨ q = 11 ∨ q = 12 by omega) with rfl | rfl | rfl | rfl | rfl | rfl | rfl | rfl | rfl | rfl | rfl | rfl | rfl
    ·
      have c2 := HM1.out.cell2
      have bq := below1 w1 (.cells #[.int .i64 1, .int .i64 2] 3)
      have hq2 := heap_alloc_new w1 (.cells #[.int .i64 1, .int .i64 2] 3)
      have c2 := (HM1.out.go bq).cell2
      have Hn2 := hid (Next_in 2 (HM1.out.go bq).tp (by decide))
      have HMa := hid (HM1.out.go bq); have HFa := hid (HF1.out.trans (MkFr.of_below bq))
      go_wp2_with fail
      generalize hW : (w1.alloc (.cells #[.int .i64 1, .int .i64 2] 3)) = wa at *
      refine Hn2.out.mono ?_
      rintro e w2 ⟨r2, rfl, hr2, ht2, hA2⟩
      have hf2 := HMa.out.tp.fr hA2
      have q2 := two_cells (hf2.cells hq2 (by decide) (by decide) (by decide))
      obtain ⟨y0, y1, -, -⟩ := q2
      have HM2 := hid (HMa.out.next ht2 hA2); have HF2 := hid (HFa.out.trans hf2); have HE2 := HE1; have hl2 := hl1
      obtain ⟨p2, hp2⟩ : ∃ q, q = p1 := ⟨_, rfl⟩
      subst hp2
      have hr3 : r2 = 0 ∨ r2 = 1 := by omega
      clear hW hq2 hr2 ht2 hA2 hf2 bq c2 Hn2 HMa HFa HM1 HF1 HE1
      rcases hr3 with rfl | rfl
      ·
        have HMa := HM2; have HFa := HF2; have HQ := hid (QArg.nil W0 X w2)
        have hb3 := BMake_any HMa.out ⟨1, [], 0, 0⟩ (.slice none 0 0) false none 0 0 HQ.out (zeroRaw _) (mk_leaf _ 1 (by omega)) (by omega) ⟨by simp, by show sz W 0 ≤ 8; rw [sz_zero]; omega⟩
        rw [show plSort _ ⟨1, [], 0, 0⟩ = 1 from rfl] at hb3
        have Hb3 := hid hb3
        clear hb3 HQ
        go_wp2_with fail
        refine Hb3.out.mono ?_
        rintro e w3 ⟨x, p3, rfl, hm3, he3, hx, -, hl3, hf3⟩
        have HM3 := hid hm3; have HE3 := hid (HE2.out.trans he3); have HF3 := hid (HFa.out.trans hf3)
        have Ix := hid hx
        clear hm3 he3 hf3 hx Hb3 HM2 HE2 HF2 HMa HFa
        have Hfin := hid (show MkRes W0 X b t vB bs us p n 1 none w (.returned (.int .i64 (x : Nat))) w3 from ⟨x, p3, rfl, HM3.out, HE3.out, Ix.out, (fun x e => by cases e), by omega, HF3.out⟩)
        go_wp2
        go_ret
        exact Hfin.out
      ·
        have HMa := HM2; have HFa := HF2; have HQ := hid (QArg.nil W0 X w2)
        have hb3 := BMake_any HMa.out ⟨2, [], 0, 0⟩ (.slice none 0 0) false none 0 0 HQ.out (zeroRaw _) (mk_leaf _ 2 (by omega)) (by omega) ⟨by simp, by show sz W 0 ≤ 8; rw [sz_zero]; omega⟩
        rw [show plSort _ ⟨2, [], 0, 0⟩ = 1 from rfl] at hb3
        have Hb3 := hid hb3
        clear hb3 HQ
        go_wp2_with fail
        refine Hb3.out.mono ?_
        rintro e w3 ⟨x, p3, rfl, hm3, he3, hx, -, hl3, hf3⟩
        have HM3 := hid hm3; have HE3 := hid (HE2.out.trans he3); have HF3 := hid (HFa.out.trans hf3)
        have Ix := hid hx
        clear hm3 he3 hf3 hx Hb3 HM2 HE2 HF2 HMa HFa
        have Hfin := hid (show MkRes W0 X b t vB bs us p n 1 none w (.returned (.int .i64 (x : Nat))) w3 from ⟨x, p3, rfl, HM3.out, HE3.out, Ix.out, (fun x e => by cases e), by omega, HF3.out⟩)
        go_wp2
        go_ret
        exact Hfin.out
    ·
      have HMa := HM1; have HFa := HF1; have HQ := hid (QArg.nil W0 X w1)
      have hb2 := BMake_any HMa.out ⟨1, [], 0, 0⟩ (.slice none 0 0) false none 0 0 HQ.out (zeroRaw _) (mk_leaf _ 1 (by omega)) (by omega) ⟨by simp, by show sz W 0 ≤ 8; rw [sz_zero]; omega⟩
      rw [show plSort _ ⟨1, [], 0, 0⟩ = 1 from rfl] at hb2
      have Hb2 := hid hb2
      clear hb2 HQ
      go_wp2_with fail
      refine Hb2.out.mono ?_
      rintro e w2 ⟨x, p2, rfl, hm2, he2, hx, -, hl2, hf2⟩
      have HM2 := hid hm2; have HE2 := hid (HE1.out.trans he2); have HF2 := hid (HFa.out.trans hf2)
      have Ix := hid hx
      clear hm2 he2 hf2 hx Hb2 HM1 HE1 HF1 HMa HFa
      have Ha3 := hid (app_any HM2.out 0 0 1 0 x (by omega) (by constructor <;> omega) (fun h => absurd h (by decide)) (by omega) Ix.out)
      go_wp2_with fail
      refine Ha3.out.mono ?_
      rintro e w3 ⟨y, p3, rfl, hm3, he3, hy, -, hl3, hf3⟩
      have HM3 := hid hm3; have HE3 := hid (HE2.out.trans he3); have HF3 := hid (HF2.out.trans hf3)
      have Iy := hid hy
      clear hm3 he3 hf3 hy Ha3
      have Hfin := hid (show MkRes W0 X b t vB bs us p n 1 none w (.returned (.int .i64 (y : Nat))) w3 from ⟨y, p3, rfl, HM3.out, HE3.out, Iy.out, (fun x e => by cases e), by omega, HF3.out⟩)
      go_wp2
      go_ret
      exact Hfin.out
    ·
      have HMa := HM1; have HFa := HF1; have HQ := hid (QArg.nil W0 X w1)
      have hb2 := BMake_any HMa.out ⟨1, [], 0, 0⟩ (.slice none 0 0) false none 0 0 HQ.out (zeroRaw _) (mk_leaf _ 1 (by omega)) (by omega) ⟨by simp, by show sz W 0 ≤ 8; rw [sz_zero]; omega⟩
      rw [show plSort _ ⟨1, [], 0, 0⟩ = 1 from rfl] at hb2
      have Hb2 := hid hb2
      clear hb2 HQ
      go_wp2_with fail
      refine Hb2.out.mono ?_
      rintro e w2 ⟨x, p2, rfl, hm2, he2, hx, -, hl2, hf2⟩
      have HM2 := hid hm2; have HE2 := hid (HE1.out.trans he2); have HF2 := hid (HFa.out.trans hf2)
      have Ix := hid hx
      clear hm2 he2 hf2 hx Hb2 HM1 HE1 HF1 HMa HFa
      have Ha3 := hid (app_any HM2.out 0 0 1 0 x (by omega) (by constructor <;> omega) (fun h => absurd h (by decide)) (by omega) Ix.out)
      go_wp2_with fail
      refine Ha3.out.mono ?_
      rintro e w3 ⟨y, p3, rfl, hm3, he3, hy, -, hl3, hf3⟩
      have HM3 := hid hm3; have HE3 := hid (HE2.out.trans he3); have HF3 := hid (HF2.out.trans hf3)
      have Iy := hid hy
      clear hm3 he3 hf3 hy Ha3
      have Hfin := hid (show MkRes W0 X b t vB bs us p n 1 none w (.returned (.int .i64 (y : Nat))) w3 from ⟨y, p3, rfl, HM3.out, HE3.out, Iy.out, (fun x e => by cases e), by omega, HF3.out⟩)
      go_wp2
      go_ret
      exact Hfin.out
    ·
      have Hc2 := hid (HB.out X w1 p1 HM1.out (by omega))
      go_wp2_with fail
      refine Hc2.out.mono ?_
      rintro e w2 ⟨a1, p2, rfl, hm2, he2, ha1, -, hl2, hf2⟩
      have HM2 := hid hm2; have HE2 := hid (HE1.out.trans he2); have HF2 := hid (HF1.out.trans hf2)
      have Ia1 := hid ha1
      clear hm2 he2 hf2 ha1 Hc2 HM1 HE1 HF1
      have HB2 := hid HB.out
      clear HW HB HZ
      go_upto_region 8 with fail
      refine wp_region_mk (w0 := w2) 13 2 [29, 30, 31, 32, 33, 34, 35, 36, 37, 38, 39, 40, 41] [undef, undef, undef, undef, undef, undef, undef, undef, undef, undef, undef, undef, undef]
        (fun i => match i with | 0 => eqT (.pointer (some ⟨b, 0, none⟩)) | 1 => rowT | 2 => eqT (.int .i64 3) | 3 => eqT (.int .i64 0) | 4 => ptrT 0 | 5 => eqT (.int .i64 6) | 6 => eqT (.int .i64 (a1 : Nat)) | 7 => eqT (.pointer (some ⟨b, 0, none⟩)) | 8 => eqT (.int .i64 deep) | 9 => eqT (.int .i64 (deep - 1)) | 10 => stT W0 X b t vB bs us p2 m w2 | 11 => argT W0 X b t vB bs us p2 m w2 a1 | _ => tmT W0 X b t vB bs us p2 m w2 a1 6) 10 (fun _ _ => True) (fun _ _ _ _ _ => trivial) (by kernel_rfl) (by kernel_rfl) (by kernel_rfl) (by kernel_rfl) (by decide) rfl (by kernel_rfl) rfl (by decide) ?hst ?he1 ?_ ?_
      case he1 => simp only [putAll, Act.put, List.setIfInBounds_toArray, List.set_cons_zero, List.set_cons_succ]
      case hst =>
        intro j hj hr hne v wx wy h hf
        rcases j with _ | _ | _ | _ | _ | _ | _ | _ | _ | _ | _ | _ | _ | j
        · exact h
        · obtain ⟨g, e, h⟩ := h; exact ⟨g, e, hf.cells h (by decide) (by decide) (by decide)⟩
        · exact h
        · exact h
        · obtain ⟨g, e, h⟩ := h; exact ⟨g, e, hf.cells h (by decide) (by decide) (by decide)⟩
        · exact h
        · exact h
        · exact h
        · exact h
        · exact h
        · exact absurd rfl hne
        · exact absurd (show false = true from hr.symm.trans (by kernel_rfl)) (by decide)
        · exact absurd (show false = true from hr.symm.trans (by kernel_rfl)) (by decide)
        · omega
      · intro i o hi ho vs wx hvl hb hB hdep K hK
        have hvs := vlen13 hvl
        obtain ⟨s29, s30, s31, s32, s33, s34, s35, s36, s37, s38, s39, s40, s41, rfl⟩ := hvs
        clear hvl
        rcases i with _ | _ | _ | _ | _ | _ | _ | _ | _ | _ | _ | _ | _ | i
        all_goals (simp only [List.getElem?_toArray, List.getElem?_cons_zero, List.getElem?_cons_succ, Option.some.injEq] at ho)
        all_goals try (subst ho)
        all_goals try simp only [putAll, Act.put, List.setIfInBounds_toArray, List.set_cons_zero, List.set_cons_succ]
        · go_simp
          have hK' := hK.out
          simp only [putAll, Act.put, List.setIfInBounds_toArray, List.set_cons_zero, List.set_cons_succ] at hK'
          exact hK' _ _ rfl (fun _ => Below.refl _ _) (fun h => absurd h (by decide))
        · go_simp
          have hK' := hK.out
          simp only [putAll, Act.put, List.setIfInBounds_toArray, List.set_cons_zero, List.set_cons_succ] at hK'
          exact hK' _ _ ⟨_, rfl, heap_alloc_new wx _⟩ (fun _ => below1 _ _) (fun h => absurd h (by decide))
        · go_simp
          have hK' := hK.out
          simp only [putAll, Act.put, List.setIfInBounds_toArray, List.set_cons_zero, List.set_cons_succ] at hK'
          exact hK' _ _ rfl (fun _ => Below.refl _ _) (fun h => absurd h (by decide))
        · have e2 : s31 = _ := hdep ⟨2, .data⟩ (by simp) rfl
          have e2 := e2.symm
          subst e2
          go_simp
          have hK' := hK.out
          simp only [putAll, Act.put, List.setIfInBounds_toArray, List.set_cons_zero, List.set_cons_succ] at hK'
          exact hK' _ _ rfl (fun _ => Below.refl _ _) (fun h => absurd h (by decide))
        · have e1 : (rowT).P s30 wx := hdep ⟨1, .data⟩ (by simp) rfl
          have e3 : s32 = _ := hdep ⟨3, .data⟩ (by simp) rfl
          have e3 := e3.symm
          subst e3
          obtain ⟨g, e1', h67⟩ := e1
          have e1' := e1'.symm
          subst e1'
          go_simp
          have hK' := hK.out
          simp only [putAll, Act.put, List.setIfInBounds_toArray, List.set_cons_zero, List.set_cons_succ] at hK'
          exact hK' _ _ ⟨g, rfl, h67⟩ (fun _ => Below.refl _ _) (fun h => absurd h (by decide))
        · have e4 : (ptrT 0).P s33 wx := hdep ⟨4, .data⟩ (by simp) rfl
          obtain ⟨g, e4', h67⟩ := e4
          have e4' := e4'.symm
          subst e4'
          have q2 := two_cells h67
          obtain ⟨y0, y1, -, -⟩ := q2
          go_simp
          have hK' := hK.out
          simp only [putAll, Act.put, List.setIfInBounds_toArray, List.set_cons_zero, List.set_cons_succ] at hK'
          exact hK' _ _ rfl (fun _ => Below.refl _ _) (fun h => absurd h (by decide))
        · go_simp
          have hK' := hK.out
          simp only [putAll, Act.put, List.setIfInBounds_toArray, List.set_cons_zero, List.set_cons_succ] at hK'
          exact hK' _ _ rfl (fun _ => Below.refl _ _) (fun h => absurd h (by decide))
        · go_simp
          have hK' := hK.out
          simp only [putAll, Act.put, List.setIfInBounds_toArray, List.set_cons_zero, List.set_cons_succ] at hK'
          exact hK' _ _ rfl (fun _ => Below.refl _ _) (fun h => absurd h (by decide))
        · go_simp
          have hK' := hK.out
          simp only [putAll, Act.put, List.setIfInBounds_toArray, List.set_cons_zero, List.set_cons_succ] at hK'
          exact hK' _ _ rfl (fun _ => Below.refl _ _) (fun h => absurd h (by decide))
        · have e8 : s37 = _ := hdep ⟨8, .data⟩ (by simp) rfl
          have e8 := e8.symm
          subst e8
          go_simp
          have hK' := hK.out
          simp only [putAll, Act.put, List.setIfInBounds_toArray, List.set_cons_zero, List.set_cons_succ] at hK'
          exact hK' _ _ (show Value.int .i64 (IntKind.i64.wrap (deep - 1)) = .int .i64 (deep - 1) by rw [IntWalk.i64_in _ (by omega)]) (fun _ => Below.refl _ _) (fun h => absurd h (by decide))
        · have e7 : s36 = _ := hdep ⟨7, .data⟩ (by simp) rfl
          have e7 := e7.symm
          subst e7
          have e9 : s38 = _ := hdep ⟨9, .data⟩ (by simp) rfl
          have e9 := e9.symm
          subst e9
          have hb0 : Below w2.heap.size w2 wx := hB (.inl rfl)
          go_simp
          refine (HB2.out X wx p2 (HM2.out.go hb0) (by omega)).mono ?_
          rintro e wy ⟨a2, p3, rfl, hm3, he3, h3, -, hl3, hf3⟩
          go_wp2_with fail
          have hK' := hK.out
          simp only [putAll, Act.put, List.setIfInBounds_toArray, List.set_cons_zero, List.set_cons_succ] at hK'
          exact hK' _ _ ⟨a2, p3, rfl, hm3, he3, h3, hl3, (MkFr.of_below hb0).trans hf3⟩ (fun h => absurd rfl h) (fun _ => ⟨hf3, trivial⟩)
        · have e6 : s35 = _ := hdep ⟨6, .data⟩ (by simp) rfl
          have e6 := e6.symm
          subst e6
          have e10 : (stT W0 X b t vB bs us p2 m w2).P s39 wx := hdep ⟨10, .data⟩ (by simp) rfl
          obtain ⟨a2, p3, e10', st⟩ := e10
          have e10' := e10'.symm
          subst e10'
          go_simp
          have hK' := hK.out
          simp only [putAll, Act.put, List.setIfInBounds_toArray, List.set_cons_zero, List.set_cons_succ] at hK'
          exact hK' _ _ ⟨a2, p3, _, rfl, QArg.new st.1.base st.1.xlt [((a1 : Nat) : Int), ((a2 : Nat) : Int)] #[.int .i64 (a1 : Nat), .int .i64 (a2 : Nat)] rfl 2 rfl (by simp), St.go st (below1 _ _)⟩ (fun _ => below1 _ _) (fun h => absurd h (by decide))
        · have e5 : s34 = _ := hdep ⟨5, .data⟩ (by simp) rfl
          have e5 := e5.symm
          subst e5
          have e11 : (argT W0 X b t vB bs us p2 m w2 a1).P s40 wx := hdep ⟨11, .data⟩ (by simp) rfl
          obtain ⟨a2, p3, g, e11', hq, st⟩ := e11
          have e11' := e11'.symm
          subst e11'
          go_simp
          have hK' := hK.out
          simp only [putAll, Act.put, List.setIfInBounds_toArray, List.set_cons_zero, List.set_cons_succ] at hK'
          exact hK' _ _ ⟨a2, p3, g, rfl, hq, st⟩ (fun _ => Below.refl _ _) (fun h => absurd h (by decide))
        · omega
      · intro vs wx hvl hb hf hJw
        have hvs := vlen13 hvl
        obtain ⟨s29, s30, s31, s32, s33, s34, s35, s36, s37, s38, s39, s40, s41, rfl⟩ := hvs
        have e0 : s29 = .pointer (some ⟨b, 0, none⟩) := hf 0 (by decide)
        subst e0
        have e12 : (tmT W0 X b t vB bs us p2 m w2 a1 6).P s41 wx := hf 12 (by decide)
        obtain ⟨a2, p3, g, e12', hq, st⟩ := e12
        subst e12'
        clear hf hvl hJw
        obtain ⟨hm3, he3, h3, hl3, hf3⟩ := st
        have hb := BMake_any hm3 ⟨6, [(a1 : Nat), (a2 : Nat)], 0, 0⟩ (.slice (some ⟨g, 0, none⟩) 2 2) false none 0 0 hq (zeroRaw _) (mk_two _ 6 a1 a2 1 (.inl ⟨rfl, by omega⟩) (Ia1.out.ext he3) h3) (by omega) ⟨by simp, by show sz W 0 ≤ 8; rw [sz_zero]; omega⟩
        rw [show plSort p3 ⟨6, [(a1 : Nat), (a2 : Nat)], 0, 0⟩ = 1 from rfl] at hb
        have Hb := hid hb
        have HE3 := hid (HE2.out.trans he3); have HF3 := hid (HF2.out.trans hf3)
        clear hb he3 hf3 h3 hq hm3
        refine wpAny_one (i := 13) (by kernel_rfl) rfl ?_
        intro K hK
        simp only [putAll, Act.put, List.setIfInBounds_toArray, List.set_cons_zero, List.set_cons_succ]
        go_simp
        refine Hb.out.mono ?_
        rintro e w5 ⟨x, p5, rfl, hm5, he5, hx5, -, hl5, hf5⟩
        have Hfin := hid (show MkRes W0 X b t vB bs us p n 1 none w (.returned (.int .i64 (x : Nat))) w5 from ⟨x, p5, rfl, hm5, HE3.out.trans he5, hx5, (fun x e => by cases e), by omega, HF3.out.trans hf5⟩)
        clear hm5 he5 hx5 hf5
        go_wp2_with fail
        have hK' := hK.out
        apply hK'
        clear hK hK'
        refine wpAny_one (i := 14) (by kernel_rfl) rfl ?_
        intro K hK
        have hK' := hK.out
        go_simp
        apply hK'
        clear hK hK'
        refine wpAny_done (by kernel_rfl) ?_ _
        go_wp2
        go_ret
        exact Hfin.out
    ·
      have Hc2 := hid (HB.out X w1 p1 HM1.out (by omega))
      go_wp2_with fail
      refine Hc2.out.mono ?_
      rintro e w2 ⟨a1, p2, rfl, hm2, he2, ha1, -, hl2, hf2⟩
      have HM2 := hid hm2; have HE2 := hid (HE1.out.trans he2); have HF2 := hid (HF1.out.trans hf2)
      have Ia1 := hid ha1
      clear hm2 he2 hf2 ha1 Hc2 HM1 HE1 HF1
      have HB2 := hid HB.out
      clear HW HB HZ
      go_upto_region 8 with fail
      refine wp_region_mk (w0 := w2) 13 2 [29, 30, 31, 32, 33, 34, 35, 36, 37, 38, 39, 40, 41] [undef, undef, undef, undef, undef, undef, undef, undef, undef, undef, undef, undef, undef]
        (fun i => match i with | 0 => eqT (.pointer (some ⟨b, 0, none⟩)) | 1 => rowT | 2 => eqT (.int .i64 4) | 3 => eqT (.int .i64 1) | 4 => ptrT 1 | 5 => eqT (.int .i64 7) | 6 => eqT (.int .i64 (a1 : Nat)) | 7 => eqT (.pointer (some ⟨b, 0, none⟩)) | 8 => eqT (.int .i64 deep) | 9 => eqT (.int .i64 (deep - 1)) | 10 => stT W0 X b t vB bs us p2 m w2 | 11 => argT W0 X b t vB bs us p2 m w2 a1 | _ => tmT W0 X b t vB bs us p2 m w2 a1 7) 10 (fun _ _ => True) (fun _ _ _ _ _ => trivial) (by kernel_rfl) (by kernel_rfl) (by kernel_rfl) (by kernel_rfl) (by decide) rfl (by kernel_rfl) rfl (by decide) ?hst ?he1 ?_ ?_
      case he1 => simp only [putAll, Act.put, List.setIfInBounds_toArray, List.set_cons_zero, List.set_cons_succ]
      case hst =>
        intro j hj hr hne v wx wy h hf
        rcases j with _ | _ | _ | _ | _ | _ | _ | _ | _ | _ | _ | _ | _ | j
        · exact h
        · obtain ⟨g, e, h⟩ := h; exact ⟨g, e, hf.cells h (by decide) (by decide) (by decide)⟩
        · exact h
        · exact h
        · obtain ⟨g, e, h⟩ := h; exact ⟨g, e, hf.cells h (by decide) (by decide) (by decide)⟩
        · exact h
        · exact h
        · exact h
        · exact h
        · exact h
        · exact absurd rfl hne
        · exact absurd (show false = true from hr.symm.trans (by kernel_rfl)) (by decide)
        · exact absurd (show false = true from hr.symm.trans (by kernel_rfl)) (by decide)
        · omega
      · intro i o hi ho vs wx hvl hb hB hdep K hK
        have hvs := vlen13 hvl
        obtain ⟨s29, s30, s31, s32, s33, s34, s35, s36, s37, s38, s39, s40, s41, rfl⟩ := hvs
        clear hvl
        rcases i with _ | _ | _ | _ | _ | _ | _ | _ | _ | _ | _ | _ | _ | i
        all_goals (simp only [List.getElem?_toArray, List.getElem?_cons_zero, List.getElem?_cons_succ, Option.some.injEq] at ho)
        all_goals try (subst ho)
        all_goals try simp only [putAll, Act.put, List.setIfInBounds_toArray, List.set_cons_zero, List.set_cons_succ]
        · go_simp
          have hK' := hK.out
          simp only [putAll, Act.put, List.setIfInBounds_toArray, List.set_cons_zero, List.set_cons_succ] at hK'
          exact hK' _ _ rfl (fun _ => Below.refl _ _) (fun h => absurd h (by decide))
        · go_simp
          have hK' := hK.out
          simp only [putAll, Act.put, List.setIfInBounds_toArray, List.set_cons_zero, List.set_cons_succ] at hK'
          exact hK' _ _ ⟨_, rfl, heap_alloc_new wx _⟩ (fun _ => below1 _ _) (fun h => absurd h (by decide))
        · go_simp
          have hK' := hK.out
          simp only [putAll, Act.put, List.setIfInBounds_toArray, List.set_cons_zero, List.set_cons_succ] at hK'
          exact hK' _ _ rfl (fun _ => Below.refl _ _) (fun h => absurd h (by decide))
        · have e2 : s31 = _ := hdep ⟨2, .data⟩ (by simp) rfl
          have e2 := e2.symm
          subst e2
          go_simp
          have hK' := hK.out
          simp only [putAll, Act.put, List.setIfInBounds_toArray, List.set_cons_zero, List.set_cons_succ] at hK'
          exact hK' _ _ rfl (fun _ => Below.refl _ _) (fun h => absurd h (by decide))
        · have e1 : (rowT).P s30 wx := hdep ⟨1, .data⟩ (by simp) rfl
          have e3 : s32 = _ := hdep ⟨3, .data⟩ (by simp) rfl
          have e3 := e3.symm
          subst e3
          obtain ⟨g, e1', h67⟩ := e1
          have e1' := e1'.symm
          subst e1'
          go_simp
          have hK' := hK.out
          simp only [putAll, Act.put, List.setIfInBounds_toArray, List.set_cons_zero, List.set_cons_succ] at hK'
          exact hK' _ _ ⟨g, rfl, h67⟩ (fun _ => Below.refl _ _) (fun h => absurd h (by decide))
        · have e4 : (ptrT 1).P s33 wx := hdep ⟨4, .data⟩ (by simp) rfl
          obtain ⟨g, e4', h67⟩ := e4
          have e4' := e4'.symm
          subst e4'
          have q2 := two_cells h67
          obtain ⟨y0, y1, -, -⟩ := q2
          go_simp
          have hK' := hK.out
          simp only [putAll, Act.put, List.setIfInBounds_toArray, List.set_cons_zero, List.set_cons_succ] at hK'
          exact hK' _ _ rfl (fun _ => Below.refl _ _) (fun h => absurd h (by decide))
        · go_simp
          have hK' := hK.out
          simp only [putAll, Act.put, List.setIfInBounds_toArray, List.set_cons_zero, List.set_cons_succ] at hK'
          exact hK' _ _ rfl (fun _ => Below.refl _ _) (fun h => absurd h (by decide))
        · go_simp
          have hK' := hK.out
          simp only [putAll, Act.put, List.setIfInBounds_toArray, List.set_cons_zero, List.set_cons_succ] at hK'
          exact hK' _ _ rfl (fun _ => Below.refl _ _) (fun h => absurd h (by decide))
        · go_simp
          have hK' := hK.out
          simp only [putAll, Act.put, List.setIfInBounds_toArray, List.set_cons_zero, List.set_cons_succ] at hK'
          exact hK' _ _ rfl (fun _ => Below.refl _ _) (fun h => absurd h (by decide))
        · have e8 : s37 = _ := hdep ⟨8, .data⟩ (by simp) rfl
          have e8 := e8.symm
          subst e8
          go_simp
          have hK' := hK.out
          simp only [putAll, Act.put, List.setIfInBounds_toArray, List.set_cons_zero, List.set_cons_succ] at hK'
          exact hK' _ _ (show Value.int .i64 (IntKind.i64.wrap (deep - 1)) = .int .i64 (deep - 1) by rw [IntWalk.i64_in _ (by omega)]) (fun _ => Below.refl _ _) (fun h => absurd h (by decide))
        · have e7 : s36 = _ := hdep ⟨7, .data⟩ (by simp) rfl
          have e7 := e7.symm
          subst e7
          have e9 : s38 = _ := hdep ⟨9, .data⟩ (by simp) rfl
          have e9 := e9.symm
          subst e9
          have hb0 : Below w2.heap.size w2 wx := hB (.inl rfl)
          go_simp
          refine (HB2.out X wx p2 (HM2.out.go hb0) (by omega)).mono ?_
          rintro e wy ⟨a2, p3, rfl, hm3, he3, h3, -, hl3, hf3⟩
          go_wp2_with fail
          have hK' := hK.out
          simp only [putAll, Act.put, List.setIfInBounds_toArray, List.set_cons_zero, List.set_cons_succ] at hK'
          exact hK' _ _ ⟨a2, p3, rfl, hm3, he3, h3, hl3, (MkFr.of_below hb0).trans hf3⟩ (fun h => absurd rfl h) (fun _ => ⟨hf3, trivial⟩)
        · have e6 : s35 = _ := hdep ⟨6, .data⟩ (by simp) rfl
          have e6 := e6.symm
          subst e6
          have e10 : (stT W0 X b t vB bs us p2 m w2).P s39 wx := hdep ⟨10, .data⟩ (by simp) rfl
          obtain ⟨a2, p3, e10', st⟩ := e10
          have e10' := e10'.symm
          subst e10'
          go_simp
          have hK' := hK.out
          simp only [putAll, Act.put, List.setIfInBounds_toArray, List.set_cons_zero, List.set_cons_succ] at hK'
          exact hK' _ _ ⟨a2, p3, _, rfl, QArg.new st.1.base st.1.xlt [((a1 : Nat) : Int), ((a2 : Nat) : Int)] #[.int .i64 (a1 : Nat), .int .i64 (a2 : Nat)] rfl 2 rfl (by simp), St.go st (below1 _ _)⟩ (fun _ => below1 _ _) (fun h => absurd h (by decide))
        · have e5 : s34 = _ := hdep ⟨5, .data⟩ (by simp) rfl
          have e5 := e5.symm
          subst e5
          have e11 : (argT W0 X b t vB bs us p2 m w2 a1).P s40 wx := hdep ⟨11, .data⟩ (by simp) rfl
          obtain ⟨a2, p3, g, e11', hq, st⟩ := e11
          have e11' := e11'.symm
          subst e11'
          go_simp
          have hK' := hK.out
          simp only [putAll, Act.put, List.setIfInBounds_toArray, List.set_cons_zero, List.set_cons_succ] at hK'
          exact hK' _ _ ⟨a2, p3, g, rfl, hq, st⟩ (fun _ => Below.refl _ _) (fun h => absurd h (by decide))
        · omega
      · intro vs wx hvl hb hf hJw
        have hvs := vlen13 hvl
        obtain ⟨s29, s30, s31, s32, s33, s34, s35, s36, s37, s38, s39, s40, s41, rfl⟩ := hvs
        have e0 : s29 = .pointer (some ⟨b, 0, none⟩) := hf 0 (by decide)
        subst e0
        have e12 : (tmT W0 X b t vB bs us p2 m w2 a1 7).P s41 wx := hf 12 (by decide)
        obtain ⟨a2, p3, g, e12', hq, st⟩ := e12
        subst e12'
        clear hf hvl hJw
        obtain ⟨hm3, he3, h3, hl3, hf3⟩ := st
        have hb := BMake_any hm3 ⟨7, [(a1 : Nat), (a2 : Nat)], 0, 0⟩ (.slice (some ⟨g, 0, none⟩) 2 2) false none 0 0 hq (zeroRaw _) (mk_two _ 7 a1 a2 1 (.inl ⟨rfl, by omega⟩) (Ia1.out.ext he3) h3) (by omega) ⟨by simp, by show sz W 0 ≤ 8; rw [sz_zero]; omega⟩
        rw [show plSort p3 ⟨7, [(a1 : Nat), (a2 : Nat)], 0, 0⟩ = 1 from rfl] at hb
        have Hb := hid hb
        have HE3 := hid (HE2.out.trans he3); have HF3 := hid (HF2.out.trans hf3)
        clear hb he3 hf3 h3 hq hm3
        refine wpAny_one (i := 13) (by kernel_rfl) rfl ?_
        intro K hK
        simp only [putAll, Act.put, List.setIfInBounds_toArray, List.set_cons_zero, List.set_cons_succ]
        go_simp
        refine Hb.out.mono ?_
        rintro e w5 ⟨x, p5, rfl, hm5, he5, hx5, -, hl5, hf5⟩
        have Hfin := hid (show MkRes W0 X b t vB bs us p n 1 none w (.returned (.int .i64 (x : Nat))) w5 from ⟨x, p5, rfl, hm5, HE3.out.trans he5, hx5, (fun x e => by cases e), by omega, HF3.out.trans hf5⟩)
        clear hm5 he5 hx5 hf5
        go_wp2_with fail
        have hK' := hK.out
        apply hK'
        clear hK hK'
        refine wpAny_one (i := 14) (by kernel_rfl) rfl ?_
        intro K hK
        have hK' := hK.out
        go_simp
        apply hK'
        clear hK hK'
        refine wpAny_done (by kernel_rfl) ?_ _
        go_wp2
        go_ret
        exact Hfin.out
    ·
      have Hc2 := hid (HB.out X w1 p1 HM1.out (by omega))
      go_wp2_with fail
      refine Hc2.out.mono ?_
      rintro e w2 ⟨a1, p2, rfl, hm2, he2, ha1, -, hl2, hf2⟩
      have HM2 := hid hm2; have HE2 := hid (HE1.out.trans he2); have HF2 := hid (HF1.out.trans hf2)
      have Ia1 := hid ha1
      clear hm2 he2 hf2 ha1 Hc2 HM1 HE1 HF1
      have bq := below1 w2 (.cells #[.int .i64 (a1 : Nat)] 3)
      have HQ := hid (QArg.new HM2.out.base HM2.out.xlt [((a1 : Nat) : Int)] #[.int .i64 (a1 : Nat)] rfl 1 rfl (by simp))
      have HMa := hid (HM2.out.go bq); have HFa := hid (HF2.out.trans (MkFr.of_below bq))
      have hb3 := BMake_any HMa.out ⟨5, [(a1 : Nat)], 0, 0⟩ (.slice (some ⟨w2.heap.size, 0, none⟩) 1 1) false none 0 0 HQ.out (zeroRaw _) (mk_one _ a1 Ia1.out) (by omega) ⟨by simp, by show sz W 0 ≤ 8; rw [sz_zero]; omega⟩
      rw [show plSort _ ⟨5, [(a1 : Nat)], 0, 0⟩ = 1 from rfl] at hb3
      have Hb3 := hid hb3
      clear hb3 HQ bq
      go_wp2_with fail
      refine Hb3.out.mono ?_
      rintro e w3 ⟨x, p3, rfl, hm3, he3, hx, -, hl3, hf3⟩
      have HM3 := hid hm3; have HE3 := hid (HE2.out.trans he3); have HF3 := hid (HFa.out.trans hf3)
      have Ix := hid hx
      clear hm3 he3 hf3 hx Hb3 HM2 HE2 HF2 HMa HFa
      have Hfin := hid (show MkRes W0 X b t vB bs us p n 1 none w (.returned (.int .i64 (x : Nat))) w3 from ⟨x, p3, rfl, HM3.out, HE3.out, Ix.out, (fun x e => by cases e), by omega, HF3.out⟩)
      go_wp2
      go_ret
      exact Hfin.out
    ·
      have Hc2 := hid (HB.out X w1 p1 HM1.out (by omega))
      go_wp2_with fail
      refine Hc2.out.mono ?_
      rintro e w2 ⟨a1, p2, rfl, hm2, he2, ha1, -, hl2, hf2⟩
      have HM2 := hid hm2; have HE2 := hid (HE1.out.trans he2); have HF2 := hid (HF1.out.trans hf2)
      have Ia1 := hid ha1
      clear hm2 he2 hf2 ha1 Hc2 HM1 HE1 HF1
      have Hc3 := hid (HB.out X w2 p2 HM2.out (by omega))
      go_wp2_with fail
      refine Hc3.out.mono ?_
      rintro e w3 ⟨a2, p3, rfl, hm3, he3, ha2, -, hl3, hf3⟩
      have HM3 := hid hm3; have HE3 := hid (HE2.out.trans he3); have HF3 := hid (HF2.out.trans hf3)
      replace Ia1 := hid (Ia1.out.ext he3)
      have Ia2 := hid ha2
      clear hm3 he3 hf3 ha2 Hc3 HM2 HE2 HF2
      have bq := below1 w3 (.cells #[.int .i64 (a1 : Nat), .int .i64 (a2 : Nat)] 3)
      have HQ := hid (QArg.new HM3.out.base HM3.out.xlt [((a1 : Nat) : Int), ((a2 : Nat) : Int)] #[.int .i64 (a1 : Nat), .int .i64 (a2 : Nat)] rfl 2 rfl (by simp))
      have HMa := hid (HM3.out.go bq); have HFa := hid (HF3.out.trans (MkFr.of_below bq))
      have hb4 := BMake_any HMa.out ⟨8, [(a1 : Nat), (a2 : Nat)], 0, 0⟩ (.slice (some ⟨w3.heap.size, 0, none⟩) 2 2) false none 0 0 HQ.out (zeroRaw _) (mk_two _ 8 a1 a2 1 (.inl ⟨rfl, by omega⟩) Ia1.out Ia2.out) (by omega) ⟨by simp, by show sz W 0 ≤ 8; rw [sz_zero]; omega⟩
      rw [show plSort _ ⟨8, [(a1 : Nat), (a2 : Nat)], 0, 0⟩ = 1 from rfl] at hb4
      have Hb4 := hid hb4
      clear hb4 HQ bq
      go_wp2_with fail
      refine Hb4.out.mono ?_
      rintro e w4 ⟨x, p4, rfl, hm4, he4, hx, -, hl4, hf4⟩
      have HM4 := hid hm4; have HE4 := hid (HE3.out.trans he4); have HF4 := hid (HFa.out.trans hf4)
      have Ix := hid hx
      clear hm4 he4 hf4 hx Hb4 HM3 HE3 HF3 HMa HFa
      have Hfin := hid (show MkRes W0 X b t vB bs us p n 1 none w (.returned (.int .i64 (x : Nat))) w4 from ⟨x, p4, rfl, HM4.out, HE4.out, Ix.out, (fun x e => by cases e), by omega, HF4.out⟩)
      go_wp2
      go_ret
      exact Hfin.out
    ·
      have Hc2 := hid (HB.out X w1 p1 HM1.out (by omega))
      go_wp2_with fail
      refine Hc2.out.mono ?_
      rintro e w2 ⟨a0, p2, rfl, hm2, he2, ha0, -, hl2, hf2⟩
      have HM2 := hid hm2; have HE2 := hid (HE1.out.trans he2); have HF2 := hid (HF1.out.trans hf2)
      have Ia0 := hid ha0
      clear hm2 he2 hf2 ha0 Hc2 HM1 HE1 HF1
      have Hc3 := hid (HB.out X w2 p2 HM2.out (by omega))
      go_wp2_with fail
      refine Hc3.out.mono ?_
      rintro e w3 ⟨a1, p3, rfl, hm3, he3, ha1, -, hl3, hf3⟩
      have HM3 := hid hm3; have HE3 := hid (HE2.out.trans he3); have HF3 := hid (HF2.out.trans hf3)
      replace Ia0 := hid (Ia0.out.ext he3)
      have Ia1 := hid ha1
      clear hm3 he3 hf3 ha1 Hc3 HM2 HE2 HF2
      have Hc4 := hid (HB.out X w3 p3 HM3.out (by omega))
      go_wp2_with fail
      refine Hc4.out.mono ?_
      rintro e w4 ⟨a2, p4, rfl, hm4, he4, ha2, -, hl4, hf4⟩
      have HM4 := hid hm4; have HE4 := hid (HE3.out.trans he4); have HF4 := hid (HF3.out.trans hf4)
      replace Ia0 := hid (Ia0.out.ext he4)
      replace Ia1 := hid (Ia1.out.ext he4)
      have Ia2 := hid ha2
      clear hm4 he4 hf4 ha2 Hc4 HM3 HE3 HF3
      have bq := below1 w4 (.cells #[.int .i64 (a0 : Nat), .int .i64 (a1 : Nat), .int .i64 (a2 : Nat)] 3)
      have HQ := hid (QArg.new HM4.out.base HM4.out.xlt [((a0 : Nat) : Int), ((a1 : Nat) : Int), ((a2 : Nat) : Int)] #[.int .i64 (a0 : Nat), .int .i64 (a1 : Nat), .int .i64 (a2 : Nat)] rfl 3 rfl (by simp))
      have HMa := hid (HM4.out.go bq); have HFa := hid (HF4.out.trans (MkFr.of_below bq))
      have hb5 := BMake_any HMa.out ⟨9, [(a0 : Nat), (a1 : Nat), (a2 : Nat)], 0, 0⟩ (.slice (some ⟨w4.heap.size, 0, none⟩) 3 3) false none 0 0 HQ.out (zeroRaw _) (mk_ite _ a0 a1 a2 1 Ia0.out Ia1.out Ia2.out).1 (by omega) ⟨by simp, by show sz W 0 ≤ 8; rw [sz_zero]; omega⟩
      rw [(mk_ite _ a0 a1 a2 1 Ia0.out Ia1.out Ia2.out).2] at hb5
      have Hb5 := hid hb5
      clear hb5 HQ bq
      go_wp2_with fail
      refine Hb5.out.mono ?_
      rintro e w5 ⟨x, p5, rfl, hm5, he5, hx, -, hl5, hf5⟩
      have HM5 := hid hm5; have HE5 := hid (HE4.out.trans he5); have HF5 := hid (HFa.out.trans hf5)
      have Ix := hid hx
      clear hm5 he5 hf5 hx Hb5 HM4 HE4 HF4 HMa HFa
      have Hfin := hid (show MkRes W0 X b t vB bs us p n 1 none w (.returned (.int .i64 (x : Nat))) w5 from ⟨x, p5, rfl, HM5.out, HE5.out, Ix.out, (fun x e => by cases e), by omega, HF5.out⟩)
      go_wp2
      go_ret
      exact Hfin.out
    ·
      have Hc2 := hid (HW.out X w1 p1 HM1.out (by omega))
      go_wp2_with fail
      refine Hc2.out.mono ?_
      rintro e w2 ⟨a1, p2, rfl, hm2, he2, ha1, -, hl2, hf2⟩
      have HM2 := hid hm2; have HE2 := hid (HE1.out.trans he2); have HF2 := hid (HF1.out.trans hf2)
      have Ia1 := hid ha1
      clear hm2 he2 hf2 ha1 Hc2 HM1 HE1 HF1
      have Hc3 := hid (HW.out X w2 p2 HM2.out (by omega))
      go_wp2_with fail
      refine Hc3.out.mono ?_
      rintro e w3 ⟨a2, p3, rfl, hm3, he3, ha2, -, hl3, hf3⟩
      have HM3 := hid hm3; have HE3 := hid (HE2.out.trans he3); have HF3 := hid (HF2.out.trans hf3)
      replace Ia1 := hid (Ia1.out.ext he3)
      have Ia2 := hid ha2
      clear hm3 he3 hf3 ha2 Hc3 HM2 HE2 HF2
      have bq := below1 w3 (.cells #[.int .i64 (a1 : Nat), .int .i64 (a2 : Nat)] 3)
      have HQ := hid (QArg.new HM3.out.base HM3.out.xlt [((a1 : Nat) : Int), ((a2 : Nat) : Int)] #[.int .i64 (a1 : Nat), .int .i64 (a2 : Nat)] rfl 2 rfl (by simp))
      have HMa := hid (HM3.out.go bq); have HFa := hid (HF3.out.trans (MkFr.of_below bq))
      have hb4 := BMake_any HMa.out ⟨10, [(a1 : Nat), (a2 : Nat)], 0, 0⟩ (.slice (some ⟨w3.heap.size, 0, none⟩) 2 2) false none 0 0 HQ.out (zeroRaw _) (mk_two _ 10 a1 a2 2 (.inr ⟨rfl, by omega⟩) Ia1.out Ia2.out) (by omega) ⟨by simp, by show sz W 0 ≤ 8; rw [sz_zero]; omega⟩
      rw [show plSort _ ⟨10, [(a1 : Nat), (a2 : Nat)], 0, 0⟩ = 1 from rfl] at hb4
      have Hb4 := hid hb4
      clear hb4 HQ bq
      go_wp2_with fail
      refine Hb4.out.mono ?_
      rintro e w4 ⟨x, p4, rfl, hm4, he4, hx, -, hl4, hf4⟩
      have HM4 := hid hm4; have HE4 := hid (HE3.out.trans he4); have HF4 := hid (HFa.out.trans hf4)
      have Ix := hid hx
      clear hm4 he4 hf4 hx Hb4 HM3 HE3 HF3 HMa HFa
      have Hfin := hid (show MkRes W0 X b t vB bs us p n 1 none w (.returned (.int .i64 (x : Nat))) w4 from ⟨x, p4, rfl, HM4.out, HE4.out, Ix.out, (fun x e => by cases e), by omega, HF4.out⟩)
      go_wp2
      go_ret
      exact Hfin.out
    ·
      have Hc2 := hid (HW.out X w1 p1 HM1.out (by omega))
      go_wp2_with fail
      refine Hc2.out.mono ?_
      rintro e w2 ⟨a1, p2, rfl, hm2, he2, ha1, -, hl2, hf2⟩
      have HM2 := hid hm2; have HE2 := hid (HE1.out.trans he2); have HF2 := hid (HF1.out.trans hf2)
      have Ia1 := hid ha1
      clear hm2 he2 hf2 ha1 Hc2 HM1 HE1 HF1
      have Hc3 := hid (HW.out X w2 p2 HM2.out (by omega))
      go_wp2_with fail
      refine Hc3.out.mono ?_
      rintro e w3 ⟨a2, p3, rfl, hm3, he3, ha2, -, hl3, hf3⟩
      have HM3 := hid hm3; have HE3 := hid (HE2.out.trans he3); have HF3 := hid (HF2.out.trans hf3)
      replace Ia1 := hid (Ia1.out.ext he3)
      have Ia2 := hid ha2
      clear hm3 he3 hf3 ha2 Hc3 HM2 HE2 HF2
      have bq := below1 w3 (.cells #[.int .i64 (a1 : Nat), .int .i64 (a2 : Nat)] 3)
      have HQ := hid (QArg.new HM3.out.base HM3.out.xlt [((a1 : Nat) : Int), ((a2 : Nat) : Int)] #[.int .i64 (a1 : Nat), .int .i64 (a2 : Nat)] rfl 2 rfl (by simp))
      have HMa := hid (HM3.out.go bq); have HFa := hid (HF3.out.trans (MkFr.of_below bq))
      have hb4 := BMake_any HMa.out ⟨10, [(a1 : Nat), (a2 : Nat)], 0, 0⟩ (.slice (some ⟨w3.heap.size, 0, none⟩) 2 2) false none 0 0 HQ.out (zeroRaw _) (mk_two _ 10 a1 a2 2 (.inr ⟨rfl, by omega⟩) Ia1.out Ia2.out) (by omega) ⟨by simp, by show sz W 0 ≤ 8; rw [sz_zero]; omega⟩
      rw [show plSort _ ⟨10, [(a1 : Nat), (a2 : Nat)], 0, 0⟩ = 1 from rfl] at hb4
      have Hb4 := hid hb4
      clear hb4 HQ bq
      go_wp2_with fail
      refine Hb4.out.mono ?_
      rintro e w4 ⟨x, p4, rfl, hm4, he4, hx, -, hl4, hf4⟩
      have HM4 := hid hm4; have HE4 := hid (HE3.out.trans he4); have HF4 := hid (HFa.out.trans hf4)
      have Ix := hid hx
      clear hm4 he4 hf4 hx Hb4 HM3 HE3 HF3 HMa HFa
      have Hfin := hid (show MkRes W0 X b t vB bs us p n 1 none w (.returned (.int .i64 (x : Nat))) w4 from ⟨x, p4, rfl, HM4.out, HE4.out, Ix.out, (fun x e => by cases e), by omega, HF4.out⟩)
      go_wp2
      go_ret
      exact Hfin.out
    ·
      have Hc2 := hid (HW.out X w1 p1 HM1.out (by omega))
      go_wp2_with fail
      refine Hc2.out.mono ?_
      rintro e w2 ⟨a1, p2, rfl, hm2, he2, ha1, -, hl2, hf2⟩
      have HM2 := hid hm2; have HE2 := hid (HE1.out.trans he2); have HF2 := hid (HF1.out.trans hf2)
      have Ia1 := hid ha1
      clear hm2 he2 hf2 ha1 Hc2 HM1 HE1 HF1
      have Hc3 := hid (HW.out X w2 p2 HM2.out (by omega))
      go_wp2_with fail
      refine Hc3.out.mono ?_
      rintro e w3 ⟨a2, p3, rfl, hm3, he3, ha2, -, hl3, hf3⟩
      have HM3 := hid hm3; have HE3 := hid (HE2.out.trans he3); have HF3 := hid (HF2.out.trans hf3)
      replace Ia1 := hid (Ia1.out.ext he3)
      have Ia2 := hid ha2
      clear hm3 he3 hf3 ha2 Hc3 HM2 HE2 HF2
      have bq := below1 w3 (.cells #[.int .i64 (a1 : Nat), .int .i64 (a2 : Nat)] 3)
      have HQ := hid (QArg.new HM3.out.base HM3.out.xlt [((a1 : Nat) : Int), ((a2 : Nat) : Int)] #[.int .i64 (a1 : Nat), .int .i64 (a2 : Nat)] rfl 2 rfl (by simp))
      have HMa := hid (HM3.out.go bq); have HFa := hid (HF3.out.trans (MkFr.of_below bq))
      have hb4 := BMake_any HMa.out ⟨11, [(a1 : Nat), (a2 : Nat)], 0, 0⟩ (.slice (some ⟨w3.heap.size, 0, none⟩) 2 2) false none 0 0 HQ.out (zeroRaw _) (mk_two _ 11 a1 a2 2 (.inr ⟨rfl, by omega⟩) Ia1.out Ia2.out) (by omega) ⟨by simp, by show sz W 0 ≤ 8; rw [sz_zero]; omega⟩
      rw [show plSort _ ⟨11, [(a1 : Nat), (a2 : Nat)], 0, 0⟩ = 1 from rfl] at hb4
      have Hb4 := hid hb4
      clear hb4 HQ bq
      go_wp2_with fail
      refine Hb4.out.mono ?_
      rintro e w4 ⟨x, p4, rfl, hm4, he4, hx, -, hl4, hf4⟩
      have HM4 := hid hm4; have HE4 := hid (HE3.out.trans he4); have HF4 := hid (HFa.out.trans hf4)
      have Ix := hid hx
      clear hm4 he4 hf4 hx Hb4 HM3 HE3 HF3 HMa HFa
      have Hfin := hid (show MkRes W0 X b t vB bs us p n 1 none w (.returned (.int .i64 (x : Nat))) w4 from ⟨x, p4, rfl, HM4.out, HE4.out, Ix.out, (fun x e => by cases e), by omega, HF4.out⟩)
      go_wp2
      go_ret
      exact Hfin.out
    ·
      have Hc2 := hid (HW.out X w1 p1 HM1.out (by omega))
      go_wp2_with fail
      refine Hc2.out.mono ?_
      rintro e w2 ⟨a1, p2, rfl, hm2, he2, ha1, -, hl2, hf2⟩
      have HM2 := hid hm2; have HE2 := hid (HE1.out.trans he2); have HF2 := hid (HF1.out.trans hf2)
      have Ia1 := hid ha1
      clear hm2 he2 hf2 ha1 Hc2 HM1 HE1 HF1
      have Hc3 := hid (HW.out X w2 p2 HM2.out (by omega))
      go_wp2_with fail
      refine Hc3.out.mono ?_
      rintro e w3 ⟨a2, p3, rfl, hm3, he3, ha2, -, hl3, hf3⟩
      have HM3 := hid hm3; have HE3 := hid (HE2.out.trans he3); have HF3 := hid (HF2.out.trans hf3)
      replace Ia1 := hid (Ia1.out.ext he3)
      have Ia2 := hid ha2
      clear hm3 he3 hf3 ha2 Hc3 HM2 HE2 HF2
      have bq := below1 w3 (.cells #[.int .i64 (a1 : Nat), .int .i64 (a2 : Nat)] 3)
      have HQ := hid (QArg.new HM3.out.base HM3.out.xlt [((a1 : Nat) : Int), ((a2 : Nat) : Int)] #[.int .i64 (a1 : Nat), .int .i64 (a2 : Nat)] rfl 2 rfl (by simp))
      have HMa := hid (HM3.out.go bq); have HFa := hid (HF3.out.trans (MkFr.of_below bq))
      have hb4 := BMake_any HMa.out ⟨11, [(a1 : Nat), (a2 : Nat)], 0, 0⟩ (.slice (some ⟨w3.heap.size, 0, none⟩) 2 2) false none 0 0 HQ.out (zeroRaw _) (mk_two _ 11 a1 a2 2 (.inr ⟨rfl, by omega⟩) Ia1.out Ia2.out) (by omega) ⟨by simp, by show sz W 0 ≤ 8; rw [sz_zero]; omega⟩
      rw [show plSort _ ⟨11, [(a1 : Nat), (a2 : Nat)], 0, 0⟩ = 1 from rfl] at hb4
      have Hb4 := hid hb4
      clear hb4 HQ bq
      go_wp2_with fail
      refine Hb4.out.mono ?_
      rintro e w4 ⟨x, p4, rfl, hm4, he4, hx, -, hl4, hf4⟩
      have HM4 := hid hm4; have HE4 := hid (HE3.out.trans he4); have HF4 := hid (HFa.out.trans hf4)
      have Ix := hid hx
      clear hm4 he4 hf4 hx Hb4 HM3 HE3 HF3 HMa HFa
      have Hfin := hid (show MkRes W0 X b t vB bs us p n 1 none w (.returned (.int .i64 (x : Nat))) w4 from ⟨x, p4, rfl, HM4.out, HE4.out, Ix.out, (fun x e => by cases e), by omega, HF4.out⟩)
      go_wp2
      go_ret
      exact Hfin.out
    ·
      have Hc2 := hid (HZ.out X w1 p1 HM1.out (by omega))
      go_wp2_with fail
      refine Hc2.out.mono ?_
      rintro e w2 ⟨a1, p2, rfl, hm2, he2, ha1, -, hl2, hf2⟩
      have HM2 := hid hm2; have HE2 := hid (HE1.out.trans he2); have HF2 := hid (HF1.out.trans hf2)
      have Ia1 := hid ha1
      clear hm2 he2 hf2 ha1 Hc2 HM1 HE1 HF1
      have Ha3 := hid (app_any HM2.out m 1 1 deep a1 (by omega) (by constructor <;> omega) (fun _ => HW.out) (by omega) Ia1.out)
      go_wp2_with fail
      refine Ha3.out.mono ?_
      rintro e w3 ⟨y, p3, rfl, hm3, he3, hy, -, hl3, hf3⟩
      have HM3 := hid hm3; have HE3 := hid (HE2.out.trans he3); have HF3 := hid (HF2.out.trans hf3)
      have Iy := hid hy
      clear hm3 he3 hf3 hy Ha3
      have Hfin := hid (show MkRes W0 X b t vB bs us p n 1 none w (.returned (.int .i64 (y : Nat))) w3 from ⟨y, p3, rfl, HM3.out, HE3.out, Iy.out, (fun x e => by cases e), by omega, HF3.out⟩)
      go_wp2
      go_ret
      exact Hfin.out
end Go.Proofs.YtckkpolikdnilaaGreatDoor
/- elenchusmake's rows, whole: Syms, Start, Rows. -/
namespace Go.Proofs.YtckkpolikdnilaaGreatDoor
open Go.RowKit Big Go.WideMaps

theorem mk_all {W0 : World} {b t : Nat} {vB : Value} {bs : List Nat} {us : List Int} : ∀ d : Nat, d ≤ 100 →
    (∀ X w p, MkAt W0 X w b t vB bs p us → p.terms.length + mkN d ≤ 4096 → Calls Tryz.prog 42 #[.pointer (some ⟨b, 0, none⟩), .int .i64 (d : Nat)] w (MkRes W0 X b t vB bs us p (mkN d) 2 none w)) ∧
    (∀ X w p, MkAt W0 X w b t vB bs p us → p.terms.length + mkN d ≤ 4096 → Calls Tryz.prog 24 #[.pointer (some ⟨b, 0, none⟩), .int .i64 (d : Nat)] w (MkRes W0 X b t vB bs us p (mkN d) 1 none w))
  | 0, _ => ⟨fun X w p h hn => Whole_step h 0 0 2 (by omega) (by omega) (by omega) (by omega) hn (fun h => by omega) (fun h => by omega) (fun h => by omega),
      fun X w p h hn => Bool_step h 0 0 2 (by omega) (by omega) (by omega) (by omega) hn (fun h => by omega) (fun h => by omega) (fun h => by omega)⟩
  | d + 1, hd => by
    have ih := mk_all (W0 := W0) (b := b) (t := t) (vB := vB) (bs := bs) (us := us) d (by omega)
    have i0 := mk_all (W0 := W0) (b := b) (t := t) (vB := vB) (bs := bs) (us := us) 0 (by omega)
    have e : (((d + 1 : Nat) : Int)) - 1 = (d : Nat) := by omega
    have hN : mkN (d + 1) = 3 * mkN d + 3 := rfl
    refine ⟨fun X w p h hn => Whole_step h ((d + 1 : Nat) : Int) (mkN d) (mkN (d + 1)) (by omega) (by omega) (by omega) (fun _ => by omega) hn (fun _ => ?_) (fun _ => ?_) (fun _ => i0.1),
      fun X w p h hn => Bool_step h ((d + 1 : Nat) : Int) (mkN d) (mkN (d + 1)) (by omega) (by omega) (by omega) (fun _ => by omega) hn (fun _ => ?_) (fun _ => ?_) (fun _ => i0.2)⟩
    · rw [e]; exact ih.1
    · rw [e]; exact ih.2
    · rw [e]; exact ih.1
    · rw [e]; exact ih.2
/-- the usual symbols -/
def mkSyms : List Sy := [⟨[112], 0, 1⟩, ⟨[113], 0, 1⟩, ⟨[120], 0, 2⟩, ⟨[121], 0, 2⟩, ⟨[122], 0, 2⟩, ⟨[102], 1, 2⟩, ⟨[103], 2, 1⟩]
set_option maxRecDepth 100000 in
set_option maxHeartbeats 3200000 in
theorem Syms_any (w : World) : Calls Tryz.prog 45 #[] w (fun e w' => ∃ v, e = .returned v ∧ w'.ownsRow w.heap.size 39 3 v mkSyms.length (syCells mkSyms) ∧ Below w.heap.size w w') := by
  go_enter Tryz.func45, Tryz.ntmps45
  go_wp2
  go_ret
  refine ⟨_, rfl, ⟨rfl, .inr ⟨w.heap.size, 7, _, rfl, Nat.le_refl _, heap_alloc_new w _, by decide, by simp [maxLen], by simp, by rfl⟩⟩, below1 _ _⟩
def zr (k : Nat) : List Int := (List.range k).map fun (n : Nat) => (n : Int)
theorem zr_len (k : Nat) : (zr k).length = k := by simp [zr]
theorem zr_succ (k : Nat) : zr (k + 1) = zr k ++ [((k : Nat) : Int)] := by simp [zr, List.range_succ]
theorem MkP.empty (s : List Sy) (hs : s.length ≤ 256) : MkP ⟨s, [], []⟩ := ⟨⟨rfl, by simp, hs, fun k h => absurd h (by simp)⟩, ⟨rfl, fun k h => absurd h (by simp)⟩, fun t h => absurd h (by simp)⟩
/-- the loop of Start -/
theorem MkParts.more {W0 w w' : World} {b t : Nat} {vB : Value} {bs : List Nat} {s : List Sy} {us us' : List Int} {vs vy vy' : Value} (h : MkParts W0 (fun _ => False) w b t vB bs ⟨s, [], []⟩ us vs (.slice none 0 0) vy) (hA : Apart (fun k => vy.ownBlock = some k) w w') (hr : w'.ownsRow W0.heap.size 3 1 vy' us'.length (zints us'))
    (hu : ∀ k ∈ us', ∃ j : Nat, k = (j : Nat) ∧ j < s.length) (hf : us'.length ≤ 256) : MkParts W0 (fun _ => False) (w'.setCell ⟨b, 3, none⟩ vy') b t vB bs ⟨s, [], []⟩ us' vs (.slice none 0 0) vy' := by
  have hne : ∀ (k : Nat) (c : Array Value) (ty : TypeId), w.heap[k]? = some (.cells c ty (0, 0)) → ty ≠ 3 → w'.heap[k]? = w.heap[k]? := fun k c ty hc h1 => hA.block k (lt_of_block hc) (fun hs => by
    obtain ⟨c', hc'⟩ := row_tag h.used k hs
    exact tag_ne hc hc' h1 rfl)
  have hcb := (hne b _ _ h.cell (by decide)).trans h.cell
  have F : ∀ k, k ≠ b → (w'.setCell ⟨b, 3, none⟩ vy').heap[k]? = w'.heap[k]? := fun k hk => Below.heap_setCell _ _ _ _ hk
  refine ⟨?_, h.ge, by simpa using heap_setCell_same w' b 3 _ _ vy' hcb, row_stays h.syms fun k hk => ?_, ⟨[], World.ownsRow_nil _ _ _ _, rfl⟩, row_stays hr fun k hk => ?_, h.mkp, hu, h.arity, hf, (fun k hk => hk.elim), fun k _ hk => hk⟩
  · obtain ⟨h1, h2, h3, h4, a, ha, hc⟩ := h.tp
    refine ⟨h1, h2, h3, (h4.trans (hA.below h4.size (fun k hk => (World.ownsRow.lt h.used k hk).1))).setCell (p := ⟨b, 3, none⟩) h.ge vy', a, ha, (F t (tag_ne hc h.cell (by decide))).trans ((hne t _ _ hc (by decide)).trans hc)⟩
  · obtain ⟨c, hc⟩ := row_tag h.syms k hk
    exact (F k (tag_ne hc h.cell (by decide))).trans (hne k c _ hc (by decide))
  · obtain ⟨c, hc⟩ := row_tag hr k hk
    exact F k (tag_ne hc hcb (by decide))
set_option maxRecDepth 100000 in
set_option maxHeartbeats 3200000 in
theorem Start_any {W0 w : World} {t : Nat} {vB : Value} {bs : List Nat} (h : TpIn W0 w t vB bs) : Calls Tryz.prog 23 #[.pointer (some ⟨t, 0, none⟩)] w (fun e w' => ∃ b, e = .returned (.pointer (some ⟨b, 0, none⟩)) ∧ MkAt W0 (fun _ => False) w' b t vB bs ⟨mkSyms, [], []⟩ (zr 7) ∧ Below w.heap.size w w') := by
  have HT := hid h
  have hW0 := h.2.2.2.1.size
  clear h
  go_enter Tryz.func23, Tryz.ntmps23
  go_wp2_with fail
  refine (Syms_any w).mono ?_
  rintro e w1 ⟨v, rfl, hs, b1⟩
  obtain ⟨ps, cs, rfl⟩ := ownsRow_shape hs
  have hL : mkSyms.length = 7 := rfl
  rw [hL] at hs ⊢
  have b2 := below1 w1 (.cells #[.slice ps 7 cs, .slice none 0 0, .pointer (some ⟨t, 0, none⟩), .slice none 0 0] 73)
  have hc2 := heap_alloc_new w1 (.cells #[.slice ps 7 cs, .slice none 0 0, .pointer (some ⟨t, 0, none⟩), .slice none 0 0] 73)
  have hz1 := b1.size
  have H2 : Hid (MkParts W0 (fun _ => False) (w1.alloc (.cells #[.slice ps 7 cs, .slice none 0 0, .pointer (some ⟨t, 0, none⟩), .slice none 0 0] 73)) w1.heap.size t vB bs ⟨mkSyms, [], []⟩ (zr 0) (.slice ps 7 cs) (.slice none 0 0) (.slice none 0 0)) := hid
    ⟨(HT.out.go b1).go b2, by omega, hc2, ownsRow_later (ownsRow_mono hs hW0) b2, ⟨[], World.ownsRow_nil _ _ _ _, rfl⟩, World.ownsRow_nil _ _ _ _, MkP.empty _ (by decide), (fun k h => absurd h (by simp [zr])), (by decide), by simp [zr], (fun k hk => hk.elim), fun k hk => by cases hk⟩
  have HB2 := hid (bel_go b2 b1)
  have q4 := four_cells hc2
  obtain ⟨k0, k1, k2, k3⟩ := q4
  clear hs b1 b2 hc2
  go_upto_region 2 with fail
  generalize hW : (w1.alloc (.cells #[.slice ps 7 cs, .slice none 0 0, .pointer (some ⟨t, 0, none⟩), .slice none 0 0] 73)) = w2 at *
  clear hW
  go_wp2_with fail
  go_loopw [16] (fun i wr => ∃ k : Nat, k ≤ 7 ∧ i = .int .i64 (k : Nat) ∧ Hid (∃ vy, MkParts W0 (fun _ => False) wr w1.heap.size t vB bs ⟨mkSyms, [], []⟩ (zr k) (.slice ps 7 cs) (.slice none 0 0) vy ∧ ∀ i, vy.ownBlock = some i → w.heap.size ≤ i) ∧ Hid (Below w.heap.size w wr)) (fun i _ => 7 - (intOf i).toNat)
  case atStart => exact ⟨0, by omega, rfl, hid ⟨_, H2.out, fun i hi => by cases hi⟩, HB2⟩
  case round =>
    obtain ⟨k, hk, rfl, Hk, Hb⟩ := hrel
    obtain ⟨vy, H, hvy⟩ := Hk.out
    have q4 := four_cells H.cell
    clear k0 k1 k2 k3
    obtain ⟨k0, k1, k2, k3⟩ := q4
    have f3 := frozen_all H.cell 3
    obtain ⟨py, cy, rfl⟩ := ownsRow_shape H.used
    rw [zr_len] at k3 H hvy
    by_cases hlt : k < 7
    · have hlt' : (k : Int) < 7 := by omega
      have b1 := below1 wr (.cells #[.int .i64 (k : Nat)] 3)
      have hbl := lt_of_block H.cell
      have H1 := H.go b1
      have hu1 := H1.used
      have hi1 := IAt.one wr (k : Nat)
      have hbz := H1.tp.2.2.2.1.size
      have hzl := zr_len k
      have hZl := hid hzl
      have hzl1 : (zr k).length ≤ 7 := by omega
      have HH1 := hid H1
      have hcb1 := H1.cell
      have hbl1 := lt_of_block hcb1
      clear hzl H H1
      go_wp2_with (at_builtin; refine wpList_append_zints_g rfl _ _ 69 rfl elemInts W0.heap.size _ (zr k) rfl hu1 _ [((k : Nat) : Int)] rfl hi1 (by simp) (by simp [maxLen]; omega) (by simp; omega) hbz ?_; intro v5 w5 ho5 hA5 hv5; obtain ⟨p5, c5, rfl⟩ := ownsRow_shape ho5; have hcb5 := (hA5.block w1.heap.size hbl1 (row_ne hu1 hcb1 (by decide) _ · rfl)).trans hcb1; have q5 := four_cells hcb5; obtain ⟨y0, y1, y2, y3⟩ := q5; have z3 := frozen_all hcb5 3)
      have hm5 := HH1.out.more hA5 (us' := zr (k + 1)) (by rw [zr_succ]; exact ho5) (fun x hx => by
        obtain ⟨n, hn, rfl⟩ := List.mem_map.1 hx
        exact ⟨n, rfl, by have := List.mem_range.1 hn; show n < 7; omega⟩) (by rw [zr_len]; omega)
      have hbb := (hA5.below (B := w.heap.size) (by have := b1.size; have := Hb.out.size; omega) (fun i hi => hvy i hi))
      have hwb : w.heap.size ≤ w1.heap.size := hz1
      have Hrel := hid (show (∃ vy, MkParts W0 (fun _ => False) (w5.setCell ⟨w1.heap.size, 3, none⟩ (.slice p5 (zr k ++ [((k : Nat) : Int)]).length c5)) w1.heap.size t vB bs ⟨mkSyms, [], []⟩ (zr (k + 1)) (.slice ps 7 cs) (.slice none 0 0) vy ∧ ∀ i, vy.ownBlock = some i → w.heap.size ≤ i) ∧ Below w.heap.size w (w5.setCell ⟨w1.heap.size, 3, none⟩ (.slice p5 (zr k ++ [((k : Nat) : Int)]).length c5)) from
        ⟨⟨_, hm5, fun i hi => by
          rcases hv5 with e | e
          · rw [e] at hi; exact hvy i hi
          · rw [e] at hi
            have hi : _ = i := Option.some.inj hi
            have := Hb.out.size; have := b1.size; omega⟩, ((bel_go b1 Hb.out).trans hbb).setCell (p := ⟨w1.heap.size, 3, none⟩) hwb _⟩)
      clear hm5 hbb hA5 hv5 ho5
      go_roundw
      case rel =>
        have hr := Hrel.out
        simp only [List.length_append, List.length_cons, List.length_nil, Nat.zero_add] at hr
        exact ⟨k + 1, by omega, rfl, hid hr.1, hid hr.2⟩
      case measure => simp [intOf]; omega
    · have hkk : k = 7 := by omega
      subst hkk
      clear H f3
      go_wp2
      go_ret
      obtain ⟨vy', H', -⟩ := Hk.out
      exact ⟨_, rfl, ⟨_, _, _, H'⟩, Hb.out⟩
set_option maxRecDepth 100000 in
set_option maxHeartbeats 3200000 in
theorem Rows_mk {W0 w : World} {t : Nat} {vB : Value} {bs : List Nat} (h : TpIn W0 w t vB bs) : Calls Tryz.prog 17 #[.pointer (some ⟨t, 0, none⟩)] w (fun e w' => ∃ v p, e = .returned v ∧ RwIn w' v p.syms p.terms ∧ MkP p ∧ p.syms = mkSyms ∧ Below W0.heap.size W0 w' ∧ MkFr w w') := by
  have b0 := below1 w (.cells #[.slice none 0 0, .slice none 0 0] 25)
  have hr0 := heap_alloc_new w (.cells #[.slice none 0 0, .slice none 0 0] 25)
  have hz0 := size_alloc w (.cells #[.slice none 0 0, .slice none 0 0] 25)
  have HS := hid (Start_any (h.go b0))
  have htl := h.2.2.2.2.lt
  have hWw := h.2.2.2.1.size
  have F0 := hid (MkFr.of_below b0)
  clear h b0
  go_enter Tryz.func17, Tryz.ntmps17
  go_wp2_with fail
  generalize hW : (w.alloc (.cells #[.slice none 0 0, .slice none 0 0] 25)) = W1 at *
  clear hW
  refine HS.out.mono ?_
  rintro e w1 ⟨b, rfl, hm1, b1⟩
  have HM1 := hid hm1; have HF1 := hid (F0.out.trans (MkFr.of_below b1))
  have hr1 := (b1.block w.heap.size (by omega)).trans hr0
  have Hn := hid (Next_in 4 hm1.tp (by decide))
  clear hm1 b1 hr0 HS F0
  go_wp2_with fail
  refine Hn.out.mono ?_
  rintro e w2 ⟨k0, rfl, hk0, ht2, hA2⟩
  have hk4 : k0 < 4 := by omega
  have hf2 := HM1.out.tp.fr hA2
  have hr2 := hf2.cells hr1 (by decide) (by decide) (by decide)
  have Hat : Hid (∃ p, MkAt W0 (fun _ => False) w2 b t vB bs p (zr 7) ∧ p.syms = mkSyms ∧ p.terms.length ≤ (k0 - k0) * 93 ∧ MkFr w w2 ∧ w2.heap[w.heap.size]? = some (.cells #[.slice none 0 0, .slice none 0 0] 25 (0, 0))) := hid ⟨_, HM1.out.next ht2 hA2, rfl, by simp, HF1.out.trans hf2, hr2⟩
  clear ht2 hA2 hf2 hr1 hr2 HM1 HF1 Hn hk0
  have H3 := mk_all (W0 := W0) (b := b) (t := t) (vB := vB) (bs := bs) (us := zr 7) 3 (by omega)
  have hN3 : mkN 3 = 93 := by decide
  rw [hN3] at H3
  have HW3 := hid H3.1; have HB3 := hid H3.2
  clear H3 hN3
  go_wp2_with fail
  go_loopw [4] (fun i wr => ∃ k : Int, -1 ≤ k ∧ k ≤ (k0 : Nat) ∧ i = .int .i64 k ∧ Hid (∃ p, MkAt W0 (fun _ => False) wr b t vB bs p (zr 7) ∧ p.syms = mkSyms ∧ (p.terms.length : Int) ≤ ((k0 : Nat) - k) * 93 ∧ MkFr w wr ∧ wr.heap[w.heap.size]? = some (.cells #[.slice none 0 0, .slice none 0 0] 25 (0, 0)))) (fun i _ => (intOf i + 1).toNat)
  case atStart => exact ⟨(k0 : Nat), by omega, by omega, rfl, hid (by obtain ⟨p, h1, h2, h3, h4⟩ := Hat.out; exact ⟨p, h1, h2, by simp at h3 ⊢; simp [h3], h4⟩)⟩
  case round =>
    obtain ⟨k, hkm, hkk, rfl, Hk⟩ := hrel
    obtain ⟨p, hm, hsy, hl, hf, hr⟩ := Hk.out
    have HM := hid hm; have HF := hid hf; have Hsy := hid hsy; have Hr := hid hr
    by_cases hge : 0 ≤ k
    · have hged : decide (0 ≤ k) = true := by simp [hge]
      have Hn := hid (Next_in 2 hm.tp (by decide))
      clear hm hf hsy hr Hk Hat
      go_wp2_with fail
      refine Hn.out.mono ?_
      rintro e w3 ⟨q, rfl, hq, ht3, hA3⟩
      have hf3 := HM.out.tp.fr hA3
      have HM3 := hid (HM.out.next ht3 hA3); have HF3 := hid (HF.out.trans hf3); have Hr3 := hid (hf3.cells Hr.out (by decide) (by decide) (by decide))
      have hlen : p.terms.length + 93 ≤ 4096 := by omega
      have Hcw := hid (HW3.out _ w3 p HM3.out hlen); have Hcb := hid (HB3.out _ w3 p HM3.out hlen)
      clear ht3 hA3 hf3 Hn HM HF Hr
      rcases (show q = 0 ∨ q = 1 by omega) with rfl | rfl
      · go_wp2_with fail
        refine Hcb.out.mono ?_
        rintro e w4 ⟨x, p4, rfl, hm4, he4, hx4, -, hl4, hf4⟩
        have HK := hid (show ∃ p, MkAt W0 (fun _ => False) w4 b t vB bs p (zr 7) ∧ p.syms = mkSyms ∧ (p.terms.length : Int) ≤ ((k0 : Nat) - (k - 1)) * 93 ∧ MkFr w w4 ∧ w4.heap[w.heap.size]? = some (.cells #[.slice none 0 0, .slice none 0 0] 25 (0, 0)) from ⟨p4, hm4, he4.1.trans Hsy.out, by omega, HF3.out.trans hf4, hf4.cells Hr3.out (by decide) (by decide) (by decide)⟩)
        clear hm4 he4 hx4 hf4
        go_wp2_with fail
        go_roundw
        case rel => exact ⟨k - 1, by omega, by omega, rfl, HK⟩
        case measure => simp [intOf]; omega
      · go_wp2_with fail
        refine Hcw.out.mono ?_
        rintro e w4 ⟨x, p4, rfl, hm4, he4, hx4, -, hl4, hf4⟩
        have HK := hid (show ∃ p, MkAt W0 (fun _ => False) w4 b t vB bs p (zr 7) ∧ p.syms = mkSyms ∧ (p.terms.length : Int) ≤ ((k0 : Nat) - (k - 1)) * 93 ∧ MkFr w w4 ∧ w4.heap[w.heap.size]? = some (.cells #[.slice none 0 0, .slice none 0 0] 25 (0, 0)) from ⟨p4, hm4, he4.1.trans Hsy.out, by omega, HF3.out.trans hf4, hf4.cells Hr3.out (by decide) (by decide) (by decide)⟩)
        clear hm4 he4 hx4 hf4
        go_wp2_with fail
        go_roundw
        case rel => exact ⟨k - 1, by omega, by omega, rfl, HK⟩
        case measure => simp [intOf]; omega
    · have hged : decide (0 ≤ k) = false := by simp; omega
      obtain ⟨vs, vr, vy, H⟩ := hm
      obtain ⟨ps, cs, rfl⟩ := ownsRow_shape H.syms
      obtain ⟨pr, cr, rfl⟩ := H.rows.shape
      have q4 := four_cells H.cell
      obtain ⟨y0, y1, y2, y3⟩ := q4
      have q2 := two_cells hr
      obtain ⟨r0, r1, f0, f1⟩ := q2
      have hne : ∀ (k : Nat) (c : Array Value) (ty : TypeId), wr.heap[k]? = some (.cells c ty (0, 0)) → ty ≠ 25 → ((wr.setCell ⟨w.heap.size, 0, none⟩ (.slice ps p.syms.length cs)).setCell ⟨w.heap.size, 1, none⟩ (.slice pr p.terms.length cr)).heap[k]? = wr.heap[k]? := fun k c ty hc ht => (Below.heap_setCell _ _ _ _ (tag_ne hc hr ht)).trans (Below.heap_setCell _ _ _ _ (tag_ne hc hr ht))
      have hrw : RwIn ((wr.setCell ⟨w.heap.size, 0, none⟩ (.slice ps p.syms.length cs)).setCell ⟨w.heap.size, 1, none⟩ (.slice pr p.terms.length cr)) (.agg #[.slice ps p.syms.length cs, .slice pr p.terms.length cr]) p.syms p.terms := by
        refine ⟨_, _, rfl, (SyAt.own (row_stays (ownsRow_mono H.syms (Nat.zero_le _)) fun k hk => ?_)).handed, ?_⟩
        · obtain ⟨c, hc⟩ := row_tag H.syms k hk
          exact hne k c _ hc (by decide)
        · refine MfIn.tms (Q := QArg W0 (fun _ => False) ((wr.setCell ⟨w.heap.size, 0, none⟩ (.slice ps p.syms.length cs)).setCell ⟨w.heap.size, 1, none⟩ (.slice pr p.terms.length cr))) ((H.rows.stays (fun k c ty hc _ hk => ?_) (fun k c hc => hne k c _ hc (by decide))).q fun va l q => ⟨row_stays q.1 fun k hk => ?_, q.2⟩) (fun va l q => IAt.own (ownsRow_mono q.1 (Nat.zero_le _))) (fun x hx => Nat.le_trans (H.mkp.small x hx).2 (by decide))
          · rcases hk with rfl | hk
            · exact hne k c _ hc (by decide)
            · obtain ⟨cs', hr', -⟩ := H.rows
              obtain ⟨c', hc'⟩ := row_tag hr' k hk
              exact hne k c' _ hc' (by decide)
          · obtain ⟨c, hc⟩ := row_tag q.1 k hk
            exact hne k c _ hc (by decide)
      have hbw : Below W0.heap.size W0 ((wr.setCell ⟨w.heap.size, 0, none⟩ (.slice ps p.syms.length cs)).setCell ⟨w.heap.size, 1, none⟩ (.slice pr p.terms.length cr)) := (H.tp.2.2.2.1.setCell (p := ⟨w.heap.size, 0, none⟩) hWw _).setCell (p := ⟨w.heap.size, 1, none⟩) hWw _
      have hfw := (hf.setNew (p := ⟨w.heap.size, 0, none⟩) (Nat.le_refl _) (.slice ps p.syms.length cs)).setNew (p := ⟨w.heap.size, 1, none⟩) (Nat.le_refl _) (.slice pr p.terms.length cr)
      have hs2 := set2_same hr (.slice ps p.syms.length cs) (.slice pr p.terms.length cr)
      have Hfin := hid (And.intro hrw (And.intro H.mkp (And.intro hsy (And.intro hbw hfw))))
      have q2 := two_cells hs2
      obtain ⟨s0, s1, -, -⟩ := q2
      clear hrw hbw hfw hs2 H hne hr hf hsy hl Hk HM HF Hsy Hr Hat
      go_wp2
      refine bodyPost_ret (v := .agg #[.slice ps p.syms.length cs, .slice pr p.terms.length cr]) (by simp [results, Tryz.results17, go_sem, s0, s1]) rfl ?_
      exact ⟨_, rfl, p, Hfin.out⟩
end Go.Proofs.YtckkpolikdnilaaGreatDoor
/- elenchusmake.Model. -/
namespace Go.Proofs.YtckkpolikdnilaaGreatDoor
open Go.RowKit Big Go.WideMaps

theorem infoRow5 : (Tryz.prog.info? 63).map (fun i => (i.zero, i.size, i.bytes)) = some (some (.agg #[.slice none 0 0, .bool false, .slice none 0 0]), 3, 56) := by kernel_rfl
theorem infoTable5 : (Tryz.prog.info? 46).map (fun i => (i.zero, i.size, i.bytes)) = some (some (.agg #[.slice none 0 0, .bool false, .slice none 0 0]), 3, 56) := by kernel_rfl
theorem one_cell {w : World} {g : Nat} {a : Value} {t : TypeId} (h : w.heap[g]? = some (.cells #[a] t (0, 0))) : w.cell? ⟨g, 0, none⟩ = some a ∧ w.frozen? ⟨g, 0, none⟩ = false := by
  constructor
  · rw [cell_of_row _ _ _ _ _ _ h]; rfl
  · simp [World.frozen?, h]
set_option maxRecDepth 100000 in
set_option maxHeartbeats 25600000 in
theorem Model_any {W0 w : World} {t : Nat} {vB : Value} {bs : List Nat} (h : TpIn W0 w t vB bs) (vs : Value) (syms : List Sy) (hs : ∀ w', Apart (fun i => i = t) w w' → SyIn w' vs syms) (har : ∀ s ∈ syms, s.arity ≤ 4) (hlen : syms.length ≤ 1000) :
    Calls Tryz.prog 18 #[.pointer (some ⟨t, 0, none⟩), vs] w (fun e w' => ∃ v ts, e = .returned (.agg #[v]) ∧ OwnTabs w.heap.size w' v ts ∧ ts.length = syms.length ∧ (∀ x ∈ ts, TSm x) ∧ TpIn W0 w' t vB bs ∧ Apart (fun i => i = t) w w') := by
  obtain ⟨i0, hi, hz0, hz1, hz2⟩ := info_parts infoNum
  obtain ⟨i1, hiR, hr0, hr1, hr2⟩ := info_parts infoRow5
  obtain ⟨i2, hiT, ht0, ht1, ht2⟩ := info_parts infoTable5
  have HS := hid hs; have HAr := hid har
  have hW0 := h.2.2.2.1.size
  have htl := h.2.2.2.2.lt
  have htW := h.2.2.1
  obtain ⟨ps, cs, rfl, s1, s2, -, -⟩ := hs w (Apart.refl _ _)
  unfold maxLen at s2
  obtain ⟨W, hW⟩ : ∃ W, W = (w.alloc (.cells #[.slice none 0 0] 28)).alloc (.cells #[.slice none 0 0] 28) := ⟨_, rfl⟩
  have b0 : Below w.heap.size w W := by rw [hW]; exact (below1 w _).alloc (by simp) _
  have e0 : W.heap[w.heap.size]? = some (.cells #[.slice none 0 0] 28 (0, 0)) := by rw [hW]; exact alloc_keep (alloc_at _ _ _ rfl)
  have e1 : W.heap[w.heap.size + 1]? = some (.cells #[.slice none 0 0] 28 (0, 0)) := by rw [hW]; exact alloc_at _ _ _ (by rw [size_alloc])
  have z0 : W.heap.size = w.heap.size + 1 + 1 := by rw [hW, size_alloc, size_alloc]
  have HT := hid (h.go b0)
  have HA := hid (Apart.of_below (S := fun i => i = t) b0)
  have E0 := hid e0; have E1 := hid e1
  obtain ⟨S, hS⟩ : ∃ S, S = syms.length := ⟨_, rfl⟩
  have HSl := hid hS
  rw [← hS] at s1 hlen ⊢
  clear hs har h e0 e1 b0 hS
  go_enter Tryz.func18, Tryz.ntmps18
  go_upto_region 2 with fail
  rw [← hW]
  clear hW
  go_wp2_with fail
  go_loopw [13] (fun i wr => ∃ k : Nat, k ≤ S ∧ i = .int .i64 (k : Nat) ∧ Hid (∃ p c ts, wr.heap[w.heap.size + 1]? = some (.cells #[.slice p ts.length c] 28 (0, 0)) ∧ OwnTabs w.heap.size wr (.slice p ts.length c) ts ∧ ts.length = k ∧ ∀ x ∈ ts, TSm x) ∧ Hid (TpIn W0 wr t vB bs) ∧ Hid (Apart (fun i => i = t) w wr) ∧ Hid (wr.heap[w.heap.size]? = some (.cells #[.slice none 0 0] 28 (0, 0)))) (fun i _ => S - (intOf i).toNat)
  case atStart => exact ⟨0, Nat.zero_le _, rfl, hid ⟨none, 0, [], E1.out, OwnLs.nil .., rfl, by simp⟩, HT, HA, E0⟩
  case round =>
    clear HT HA E0 E1 z0
    obtain ⟨k, hk, rfl, hM, hT, hA, hR⟩ := hrel
    by_cases hlt : k < S
    · have hkl : k < syms.length := by rw [← HSl.out]; exact hlt
      have hlt' : (k : Int) < (S : Int) := by omega
      have hsy := HS.out wr hA.out
      obtain ⟨ps', cs', e, -, -, -, i3⟩ := hsy
      rw [← HSl.out] at e
      injection e with f1 _ f3
      subst f1 f3
      obtain ⟨b, o, rfl, hb, hc⟩ := i3 (by omega)
      obtain ⟨k0, k1, k2⟩ := hc k hkl
      have har4 := HAr.out syms[k] (List.getElem_mem hkl)
      have hsize := hA.out.size
      generalize syms[k].arity = ar at *
      generalize syms[k].sort = so at *
      generalize (⟨syms[k].name.toArray⟩ : ByteArray) = nm at *
      have b4 := below1 wr (.cells #[.string nm, .int .i64 ar, .int .i64 so] 39)
      have n4 := heap_alloc_new wr (.cells #[.string nm, .int .i64 ar, .int .i64 so] 39)
      have z4 := size_alloc wr (.cells #[.string nm, .int .i64 ar, .int .i64 so] 39)
      generalize hW4 : wr.alloc (.cells #[.string nm, .int .i64 ar, .int .i64 so] 39) = W4 at *
      have HT4 := hid (hT.out.go b4)
      have HA4 := hid (Apart.of_below (S := fun i => i = t) b4)
      have N4 := hid n4
      clear hc i3 hb b4 n4
      go_wp2_with fail
      clear k0 k1 k2
      refine (Next_in 9 HT4.out (by decide)).mono ?_
      rintro e w5 ⟨k9, rfl, hk9, ht5, hA5⟩
      have hk9' : (k9 : Int) ≤ 8 := by omega
      have hf5 := HT4.out.offT hA5
      have N5 := hid (hf5.block _ _ _ N4.out (by decide))
      have HA5 := hid (HA4.out.go hA5)
      have HT5 := hid ht5
      have hz5 := hA5.size
      clear hk9 ht5 hA5 hf5 HT4 HA4 N4
      go_wp2_with fail
      refine (ROf_own ((k9 : Int) - 4) w5 (by omega) (by omega)).mono ?_
      rintro e w6 ⟨v6, rfl, i6, b6⟩
      obtain ⟨p6, n6, c6, rfl, i6⟩ := i6.shape
      have hsm6 : NSm ((k9 : Int) - 4) := NSm.of (by omega) (by omega)
      generalize (k9 : Int) - 4 = z6 at *
      generalize decide (z6 < 0) = d6 at *
      have b7 := below1 w6 (.cells #[.slice none 0 0, .bool d6, .slice p6 n6 c6] 46)
      have n7 := heap_alloc_new w6 (.cells #[.slice none 0 0, .bool d6, .slice p6 n6 c6] 46)
      have z7 := size_alloc w6 (.cells #[.slice none 0 0, .bool d6, .slice p6 n6 c6] 46)
      have hz6 := b6.size
      go_upto_region 6 with fail
      generalize hW7 : w6.alloc (.cells #[.slice none 0 0, .bool d6, .slice p6 n6 c6] 46) = W7 at *
      have hwr5 : wr.heap.size ≤ w5.heap.size := by omega
      have hwr6 : wr.heap.size ≤ w6.heap.size := by omega
      have HT7 := hid ((HT5.out.go b6).go b7)
      have HA7 := hid ((HA5.out.go (Apart.of_below b6)).go (Apart.of_below b7))
      have N7 := hid (((OffT.of_below (Ts := []) b6).trans (OffT.of_below b7)).block _ _ _ N5.out (by decide))
      have I7 := hid ((i6.mono hwr5).kept b7)
      obtain ⟨gx, hgx⟩ : ∃ gx, gx = w6.heap.size := ⟨_, rfl⟩
      rw [← hgx] at n7 z7 hwr6 ⊢
      have X7 := hid n7
      clear b6 b7 n7 i6 HT5 HA5 N5 hgx hW7 hW4 z4 hz5 hwr5 hz6
      go_wp2_with fail
      refine (Next_in 4 HT7.out (by decide)).mono ?_
      rintro e w8 ⟨j0, rfl, hj0, ht8, hA8⟩
      have hj3 : j0 ≤ 3 := by omega
      have hf8 := HT7.out.offT hA8
      have Hst : Hid (∃ pr cr rows, w8.heap[gx]? = some (.cells #[.slice pr rows.length cr, .bool d6, .slice p6 n6 c6] 46 (0, 0)) ∧ OwnRows wr.heap.size w8 (.slice pr rows.length cr) rows ∧ (∀ r ∈ rows, RSm r) ∧ rows.length + j0 ≤ 3) := hid ⟨none, 0, [], hf8.block _ _ _ X7.out (by decide), OwnLs.nil .., by simp, by simpa using hj3⟩
      have HI8 := hid (hf8.own I7.out (by decide))
      have HN8 := hid (hf8.block _ _ _ N7.out (by decide))
      have HA8 := hid (HA7.out.go hA8)
      have HT8 := hid ht8
      have hz8 := hA8.size
      clear hj0 ht8 hA8 hf8 HT7 HA7 N7 I7 X7
      go_wp2_with fail
      obtain ⟨wo, rfl⟩ : ∃ wo, wo = wr := ⟨_, rfl⟩
      go_loopw [9] (fun i wr => ∃ j : Nat, j ≤ 3 ∧ i = .int .i64 (j : Nat) ∧ Hid (∃ pr cr rows, wr.heap[gx]? = some (.cells #[.slice pr rows.length cr, .bool d6, .slice p6 n6 c6] 46 (0, 0)) ∧ OwnRows wo.heap.size wr (.slice pr rows.length cr) rows ∧ (∀ r ∈ rows, RSm r) ∧ rows.length + j ≤ 3) ∧ Hid (IntOwn wr wo.heap.size (.agg #[.bool d6, .slice p6 n6 c6]) z6) ∧ Hid (TpIn W0 wr t vB bs) ∧ Hid (Apart (fun i => i = t) wo wr) ∧ Hid (wr.heap[wo.heap.size]? = some (.cells #[.string nm, .int .i64 ar, .int .i64 so] 39 (0, 0)))) (fun i _ => (intOf i).toNat)
      case atStart => exact ⟨j0, hj3, rfl, Hst, HI8, HT8, HA8, HN8⟩
      case round =>
        clear Hst HI8 HT8 HA8 HN8 hj3 hz8
        obtain ⟨j, hj3, rfl, hX, HI6, HTm, HAw, HN⟩ := hrel
        obtain ⟨pr, cr, rows, hx0, hrows, hrs, hrl⟩ := hX.out
        have HX := hid hx0; have Hrows := hid hrows; have Hrs := hid hrs
        clear hx0 hrows hrs hX
        have hNc := rec3_cells HN.out
        obtain ⟨y0, y1, y2⟩ := hNc
        have hszw := HAw.out.size
        have hgxl : gx < wr.heap.size := (Array.getElem?_eq_some_iff.1 HX.out).1
        by_cases hgo : 0 < j ∧ 0 < ar
        · have t1 : decide ((0 : Int) < (j : Int)) = true := by simp; omega
          have t2 : decide ((0 : Int) < ar) = true := by simp; omega
          obtain ⟨hj0, har0⟩ := hgo
          go_wp2_with fail
          clear y0 y1 y2 t1 t2
          obtain ⟨wm, rfl⟩ : ∃ wm, wm = wr := ⟨_, rfl⟩
          go_loopw [10, 35] (fun l i wr => ∃ m : Nat, (m : Int) ≤ ar ∧ i = .int .i64 (m : Nat) ∧ Hid (∃ nums, nums.length = m ∧ OwnNums wm.heap.size wr l nums ∧ ∀ z ∈ nums, NSm z) ∧ Hid (TpIn W0 wr t vB bs) ∧ Hid (Apart (fun i => i = t) wm wr)) (fun _ i _ => (ar - intOf i).toNat)
          case atStart => exact ⟨0, by omega, rfl, hid ⟨[], rfl, OwnLs.nil .., by simp⟩, HTm, hid (Apart.refl _ _)⟩
          case round =>
            obtain ⟨m, hm, rfl, hL, HT14, hA3⟩ := hrel
            obtain ⟨nums, hnl, hnums, hns⟩ := hL.out
            obtain ⟨pl, cl, rfl⟩ := hnums.shape
            rw [hnl] at hnums ⊢
            have Hnums := hid hnums; have Hns := hid hns; have Hnl := hid hnl
            clear hnums hns hnl hL
            have hsz3 := hA3.out.size
            by_cases hlt2 : (m : Int) < ar
            · go_wp2_with fail
              refine (Next_in 7 HT14.out (by decide)).mono ?_
              rintro e w9 ⟨k7, rfl, hk7, ht9, hA9⟩
              have hk7' : (k7 : Int) ≤ 6 := by omega
              have Hnums9 := hid (OwnNums.off Hnums.out (HT14.out.offT hA9) (by decide) (by decide))
              have HA9 := hid (hA3.out.go hA9)
              have HT9 := hid ht9
              have hz9 := hA9.size
              clear hk7 ht9 hA9
              go_wp2_with fail
              refine (ROf_own ((k7 : Int) - 3) w9 (by omega) (by omega)).mono ?_
              rintro e w10 ⟨v10, rfl, i10, b10⟩
              obtain ⟨p10, n10, c10, rfl, i10⟩ := i10.shape
              have hsm10 : NSm ((k7 : Int) - 3) := NSm.of (by omega) (by omega)
              generalize (k7 : Int) - 3 = z10 at *
              have b11 := below1 w10 (.cells #[.bool (decide (z10 < 0)), .slice p10 n10 c10] 44)
              have n11 := heap_alloc_new w10 (.cells #[.bool (decide (z10 < 0)), .slice p10 n10 c10] 44)
              have hnews : ∀ j u, ([.bool (decide (z10 < 0)), .slice p10 n10 c10] : List Value)[j]? = some u → (w10.alloc (.cells #[.bool (decide (z10 < 0)), .slice p10 n10 c10] 44)).cell? ((⟨w10.heap.size, 0, none⟩ : Addr).add j) = some u := by
                intro j u hj
                rw [Go.WideShapes.add_plain, Nat.zero_add, cell_of_row _ _ _ _ _ _ n11]
                simpa using hj
              have b911 := bel_go b11 b10
              have hO11 := OwnNums.later Hnums9.out b911
              have I11 := hid ((i10.mono (show wm.heap.size ≤ w9.heap.size by omega)).kept b11)
              have HT11 := hid (HT9.out.go b911)
              have HA11 := hid (HA9.out.go (Apart.of_below b911))
              have hz11 := b911.size
              have hz10 := b10.size
              clear i10 b10 b11 n11 b911 HT9 HA9 Hnums9
              obtain ⟨xs, ho11, hgo⟩ := hO11.row
              rw [Hnl.out] at ho11 hgo
              have Hgo := hid hgo
              have Ho11 := hid ho11
              clear hgo hO11
              go_wp2_with (at_builtin; refine wpList_append_own _ rfl _ _ 32 rfl wm.heap.size 44 i0 _ 2 32 Tryz.underlying32 hi hz0 hz1 hz2 rfl (by decide) _ m _ rfl ho11 ⟨w10.heap.size, 0, none⟩ 1 1 [.bool (decide (z10 < 0)), .slice p10 n10 c10] rfl rfl hnews (by intro u hu; simp at hu; rcases hu with rfl | rfl <;> rfl) (by simp [maxLen]; omega) (by omega) (by omega) ?_; intro v12 w12 ho12 hg12 _)
              have hoff := OffT.of_grown Ho11.out hg12
              have hnew := Hgo.out w12 v12 [.bool (decide (z10 < 0)), .slice p10 n10 c10] z10 ho12 rfl (fun c x hx => hx.off hoff (by decide)) ⟨_, rfl, hoff.own I11.out (by decide)⟩
              have hrowge : ∀ i, (Value.slice pl m cl).ownBlock = some i → wm.heap.size ≤ i := fun i hi2 => (World.ownsRow.lt Ho11.out i hi2).1
              have HAF := hid (HA11.out.trans ((Apart.refl (fun i => (Value.slice pl m cl).ownBlock = some i) _).grown hg12 (fun k hk => hk)) (fun i hi2 => .inr (hrowge i hi2)))
              have HTF := hid (HT11.out.off hoff (by decide) (HT11.out.2.2.2.1.grown hg12 (by omega) (fun g hg => by have := hrowge g hg; omega)))
              have Hrel := hid (show ∃ nums', nums'.length = m + 1 ∧ OwnNums wm.heap.size w12 v12 nums' ∧ ∀ z ∈ nums', NSm z from ⟨nums ++ [z10], by simp [Hnl.out], hnew, fun z hz => by
                rcases List.mem_append.1 hz with h1 | h1
                · exact Hns.out z h1
                · rw [List.mem_singleton.1 h1]; exact hsm10⟩)
              clear hnew hoff hrowge
              go_roundw
              case rel => exact ⟨m + 1, by omega, by go_num, Hrel, HTF, HAF⟩
              case measure => simp [intOf] <;> omega
            · have hme : (m : Int) = ar := by omega
              have hm4 : m ≤ 4 := by omega
              have hfm := HTm.out.offT hA3.out
              have HX := hid (hfm.block _ _ _ HX.out (by decide))
              have Hrows := hid (OwnRows.off Hrows.out hfm (by decide) (by decide) (by decide))
              have HI6 := hid (hfm.own HI6.out (by decide))
              have HN := hid (hfm.block _ _ _ HN.out (by decide))
              have HAw := hid (HAw.out.go hA3.out)
              have hgxl : gx < wr.heap.size := (Array.getElem?_eq_some_iff.1 HX.out).1
              clear hfm hme
              go_upto_region 14 with fail
              refine wp_region_mk (w0 := wr) 9 3 [45, 46, 47, 48, 49, 50, 51, 52, 53] [u45, u46, u47, u48, u49, u50, u51, u52, u53]
                (fun i => match i with | 0 => eqM (.pointer (some ⟨gx, 0, none⟩)) | 1 => eqM (.slice pr rows.length cr) | 2 => eqM (.slice pl m cl) | 3 => eqM (.pointer (some ⟨t, 0, none⟩)) | 4 => nextM W0 t vB bs 9 wr | 5 => smallM | 6 => ownM wm.heap.size | 7 => rowM wm.heap.size (.slice pl m cl) | _ => putM wm.heap.size (.slice pl m cl)) 4 (fun _ _ => True) (fun _ _ _ _ _ => trivial) (by kernel_rfl) (by kernel_rfl) (by kernel_rfl) (by kernel_rfl) (by decide) rfl (by kernel_rfl) rfl (by decide) ?hst ?he1 ?_ ?_
              case he1 => simp only [putAll, Act.put, List.setIfInBounds_toArray, List.set_cons_zero, List.set_cons_succ]
              case hst =>
                intro j hj hr hne v wx wy h hf
                rcases j with _ | _ | _ | _ | _ | _ | _ | _ | _ | j
                · exact h
                · exact h
                · exact h
                · exact h
                · exact absurd rfl hne
                · exact absurd (show false = true from hr.symm.trans (by kernel_rfl)) (by decide)
                · exact absurd (show false = true from hr.symm.trans (by kernel_rfl)) (by decide)
                · exact absurd (show false = true from hr.symm.trans (by kernel_rfl)) (by decide)
                · exact absurd (show false = true from hr.symm.trans (by kernel_rfl)) (by decide)
                · omega
              · intro i o hi' ho' vs wx hvl hb hB hdep K hK
                have hvs := vlen9 hvl
                obtain ⟨s45, s46, s47, s48, s49, s50, s51, s52, s53, rfl⟩ := hvs
                clear hvl
                rcases i with _ | _ | _ | _ | _ | _ | _ | _ | _ | i
                all_goals (simp only [List.getElem?_toArray, List.getElem?_cons_zero, List.getElem?_cons_succ, Option.some.injEq] at ho')
                all_goals try (subst ho')
                all_goals try simp only [putAll, Act.put, List.setIfInBounds_toArray, List.set_cons_zero, List.set_cons_succ]
                · go_simp
                  have hK' := hK.out
                  simp only [putAll, Act.put, List.setIfInBounds_toArray, List.set_cons_zero, List.set_cons_succ] at hK'
                  exact hK' _ _ rfl (fun _ => Below.refl _ _) (fun h => absurd h (by decide))
                · have e0 : s45 = _ := hdep ⟨0, .data⟩ (by simp) rfl
                  have e0 := e0.symm
                  subst e0
                  have hx := rec3_cells (hb.cells HX.out (by decide) (by decide) (by decide))
                  obtain ⟨q0, q1, q2⟩ := hx
                  go_simp
                  have hK' := hK.out
                  simp only [putAll, Act.put, List.setIfInBounds_toArray, List.set_cons_zero, List.set_cons_succ] at hK'
                  exact hK' _ _ rfl (fun _ => Below.refl _ _) (fun h => absurd h (by decide))
                · go_simp
                  have hK' := hK.out
                  simp only [putAll, Act.put, List.setIfInBounds_toArray, List.set_cons_zero, List.set_cons_succ] at hK'
                  exact hK' _ _ rfl (fun _ => Below.refl _ _) (fun h => absurd h (by decide))
                · go_simp
                  have hK' := hK.out
                  simp only [putAll, Act.put, List.setIfInBounds_toArray, List.set_cons_zero, List.set_cons_succ] at hK'
                  exact hK' _ _ rfl (fun _ => Below.refl _ _) (fun h => absurd h (by decide))
                · have e3 : s48 = _ := hdep ⟨3, .data⟩ (by simp) rfl
                  have e3 := e3.symm
                  subst e3
                  have hb0 : Below wr.heap.size wr wx := hB (.inl rfl)
                  go_simp
                  refine (Next_in 9 (HT14.out.go hb0) (by decide)).mono ?_
                  rintro e wy ⟨kk, rfl, hkk, htt, hAA⟩
                  go_wp2_with fail
                  have hK' := hK.out
                  simp only [putAll, Act.put, List.setIfInBounds_toArray, List.set_cons_zero, List.set_cons_succ] at hK'
                  exact hK' _ _ ⟨kk, rfl, by omega, htt, (Apart.of_below hb0).go hAA⟩ (fun h => absurd rfl h) (fun _ => ⟨(HT14.out.go hb0).fr hAA, trivial⟩)
                · have e4 : (nextM W0 t vB bs 9 wr).P s49 wx := hdep ⟨4, .data⟩ (by simp) rfl
                  obtain ⟨kk, e4', hkk, htt, hAA⟩ := e4
                  have e4' := e4'.symm
                  subst e4'
                  go_simp
                  have hK' := hK.out
                  simp only [putAll, Act.put, List.setIfInBounds_toArray, List.set_cons_zero, List.set_cons_succ] at hK'
                  exact hK' _ _ ⟨(kk : Int) - 4, (show Value.int .i64 (IntKind.i64.wrap ((kk : Int) - 4)) = .int .i64 ((kk : Int) - 4) by rw [IntWalk.i64_in _ (by omega)]), by omega, by omega⟩ (fun _ => Below.refl _ _) (fun h => absurd h (by decide))
                · have e5 : (smallM).P s50 wx := hdep ⟨5, .data⟩ (by simp) rfl
                  obtain ⟨z, e5', hz5, hz6⟩ := e5
                  have e5' := e5'.symm
                  subst e5'
                  go_simp
                  refine (ROf_own z wx (by omega) (by omega)).mono ?_
                  rintro e wy ⟨vy, rfl, iy, hby⟩
                  obtain ⟨p5, n5, c5, rfl, iy⟩ := iy.shape
                  go_wp2_with fail
                  have hK' := hK.out
                  simp only [putAll, Act.put, List.setIfInBounds_toArray, List.set_cons_zero, List.set_cons_succ] at hK'
                  exact hK' _ _ ⟨_, p5, n5, c5, z, rfl, NSm.of (by omega) (by omega), iy.mono (by have := hb.size; omega)⟩ (fun _ => hby) (fun h => absurd h (by decide))
                · have e2 : s47 = _ := hdep ⟨2, .data⟩ (by simp) rfl
                  have e2 := e2.symm
                  subst e2
                  have e6 : (ownM wm.heap.size).P s51 wx := hdep ⟨6, .data⟩ (by simp) rfl
                  obtain ⟨d5, p5, n5, c5, z, e6', hz, hio⟩ := e6
                  have e6' := e6'.symm
                  subst e6'
                  go_simp
                  have hK' := hK.out
                  simp only [putAll, Act.put, List.setIfInBounds_toArray, List.set_cons_zero, List.set_cons_succ] at hK'
                  exact hK' _ _ ⟨d5, p5, n5, c5, z, rfl, hz, hio⟩ (fun _ => Below.refl _ _) (fun h => absurd h (by decide))
                · have e7 : (rowM wm.heap.size (.slice pl m cl)).P s52 wx := hdep ⟨7, .data⟩ (by simp) rfl
                  obtain ⟨d5, p5, n5, c5, z, e7', hz, hio⟩ := e7
                  have e7' := e7'.symm
                  subst e7'
                  go_simp
                  have hK' := hK.out
                  simp only [putAll, Act.put, List.setIfInBounds_toArray, List.set_cons_zero, List.set_cons_succ] at hK'
                  exact hK' _ _ ⟨wx.heap.size, d5, p5, n5, c5, z, rfl, heap_alloc_new wx _, by have := hb.size; omega, hz, hio.kept (below1 _ _)⟩ (fun _ => below1 _ _) (fun h => absurd h (by decide))
                · omega
              · intro vs wx hvl hb hf hJw
                have hvs := vlen9 hvl
                obtain ⟨s45, s46, s47, s48, s49, s50, s51, s52, s53, rfl⟩ := hvs
                have e1 : s46 = .slice pr rows.length cr := hf 1 (by decide)
                subst e1
                have e8 : (putM wm.heap.size (.slice pl m cl)).P s53 wx := hf 8 (by decide)
                obtain ⟨gg, d5, p5, n5, c5, z, e8', hgg, hggB, hz, hio⟩ := e8
                subst e8'
                have e4 : (nextM W0 t vB bs 9 wr).P s49 wx := hf 4 (by decide)
                obtain ⟨kk, -, -, htx, hAx⟩ := e4
                have hfx := HT14.out.offT hAx
                have hX14 := hfx.block _ _ _ HX.out (by decide)
                have hrows14 := OwnRows.off Hrows.out hfx (by decide) (by decide) (by decide)
                have hnums14 := OwnNums.off Hnums.out hfx (by decide) (by decide)
                have hI14 := hfx.own HI6.out (by decide)
                have hN14 := hfx.block _ _ _ HN.out (by decide)
                have hx := rec3_cells hX14
                obtain ⟨q0, q1, q2⟩ := hx
                obtain ⟨xs, hrow, hgo⟩ := hrows14.row
                have HgoR := hid hgo
                have Hrow14 := hid hrow
                clear hf hvl hgo
                have hzx := hAx.size
                refine wpAny_one (i := 9) (by kernel_rfl) rfl ?_
                intro K hK
                try simp only [putAll, Act.put, List.setIfInBounds_toArray, List.set_cons_zero, List.set_cons_succ]
                rw [if_pos (by rfl)]
                refine step_append (.tmp 46) (.tmp 53) 40 ?ho wo.heap.size 63 i1 _ 3 56 Tryz.underlying40 hiR hr0 hr1 hr2 rfl (by decide) (.slice pr rows.length cr) rows.length xs ?hs hrow ⟨gg, 0, none⟩ 1 1 [.slice pl m cl, .bool d5, .slice p5 n5 c5] ?hx rfl ?c1 ?c2 ?c3 ?c4 ?c5 ?_
                case ho => rfl
                case hs => rfl
                case hx => rfl
                case c1 =>
                  intro j u hj
                  rw [Go.WideShapes.add_plain, Nat.zero_add, cell_of_row _ _ _ _ _ _ hgg]
                  simpa using hj
                case c2 => intro u hu; simp at hu; rcases hu with rfl | rfl | rfl <;> rfl
                case c3 => simp [maxLen]; omega
                case c4 => omega
                case c5 => omega
                intro v' w13 hown13 hg13 _
                have hK' := hK.out
                apply hK'
                clear hK hK' q0 q1 q2
                obtain ⟨pv, cv, rfl⟩ := ownsRow_shape hown13
                have hf13 := OffT.of_grown Hrow14.out hg13
                have hX13 := hf13.block _ _ _ hX14 (by decide)
                refine wpAny_one (i := 10) (by kernel_rfl) rfl ?_
                intro K hK
                try simp only [Act.put, List.setIfInBounds_toArray]
                have hK' := hK.out
                go_simp
                apply hK'
                clear hK hK'
                have hx := rec3_cells hX13
                obtain ⟨q0, q1, q2⟩ := hx
                have fz := frozen_all hX13 0
                refine wpAny_one (i := 11) (by kernel_rfl) rfl ?_
                intro K hK
                try simp only [Act.put, List.setIfInBounds_toArray]
                have hK' := hK.out
                go_simp
                apply hK'
                clear hK hK' q0 q1 q2 fz
                refine wpAny_done (by kernel_rfl) ?_ _
                try simp only [putAll, Act.put, List.setIfInBounds_toArray, List.set_cons_zero, List.set_cons_succ]
                have hfs := OffT.set hX13 0 (.slice pv (rows.length + 1) cv)
                have hio13 := hf13.own hio (by decide)
                have hnums13 := OwnNums.off hnums14 hf13 (by decide) (by decide)
                have hnew := HgoR.out w13 _ [.slice pl m cl, .bool d5, .slice p5 n5 c5] (nums, z) hown13 rfl (fun c x hx => hx.off hf13 (by decide) (by decide)) ⟨_, _, _, rfl, OwnNums.weaken hnums13 (by omega), by
                  obtain ⟨s', es, hos⟩ := hio13
                  injection es with es
                  simp only [Array.mk.injEq, List.cons.injEq, and_true] at es
                  obtain ⟨es1, es2⟩ := es
                  injection es1 with es1
                  subst es1 es2
                  exact ⟨_, rfl, (show IntOwn w13 wm.heap.size _ z from ⟨_, rfl, hos⟩).mono (by omega)⟩⟩
                have hrowsF := OwnRows.off hnew hfs (by decide) (by decide) (by decide)
                have hXF : (w13.setCell ⟨gx, 0, none⟩ (.slice pv (rows.length + 1) cv)).heap[gx]? = some (.cells #[.slice pv (rows.length + 1) cv, .bool d6, .slice p6 n6 c6] 46 (0, 0)) := by simpa using heap_setCell_same w13 gx 0 _ _ (.slice pv (rows.length + 1) cv) hX13
                have hIF := hfs.own (hf13.own hI14 (by decide)) (by decide)
                have hNF := hfs.block _ _ _ (hf13.block _ _ _ hN14 (by decide)) (by decide)
                have hrowge : ∀ i, (Value.slice pr rows.length cr).ownBlock = some i → wo.heap.size ≤ i := fun i hi2 => (World.ownsRow.lt Hrow14.out i hi2).1
                have hAF : Apart (fun i => i = t) wo (w13.setCell ⟨gx, 0, none⟩ (.slice pv (rows.length + 1) cv)) :=
                  ((HAw.out.go hAx).trans ((Apart.refl (fun i => (Value.slice pr rows.length cr).ownBlock = some i) wx).grown hg13 (fun k hk => hk)) (fun i hi2 => .inr (hrowge i hi2))).trans (Apart.setCell (p := ⟨gx, 0, none⟩) (Apart.refl (fun i => i = gx) w13) rfl _) (fun i hi2 => .inr (by omega))
                have hTF := htx.off (hf13.mono (Ts' := [63, 46]) (by simp) |>.trans (hfs.mono (by simp))) (by decide) (((htx.2.2.2.1.grown hg13 (by omega) (fun g hg => by have := hrowge g hg; omega))).setCell (p := ⟨gx, 0, none⟩) (by show W0.heap.size ≤ gx; omega) _)
                have Hrel := hid (show ∃ pr cr rws, (w13.setCell ⟨gx, 0, none⟩ (.slice pv (rows.length + 1) cv)).heap[gx]? = some (.cells #[.slice pr rws.length cr, .bool d6, .slice p6 n6 c6] 46 (0, 0)) ∧ OwnRows wo.heap.size (w13.setCell ⟨gx, 0, none⟩ (.slice pv (rows.length + 1) cv)) (.slice pr rws.length cr) rws ∧ (∀ r ∈ rws, RSm r) ∧ rws.length + (j - 1) ≤ 3 from
                  ⟨pv, cv, rows ++ [(nums, z)], by simpa using hXF, by simpa using hrowsF, fun r hr => by
                    rcases List.mem_append.1 hr with h1 | h1
                    · exact Hrs.out r h1
                    · rw [List.mem_singleton.1 h1]; exact ⟨Hns.out, hz⟩, by simp; omega⟩)
                have HIF := hid hIF; have HNF := hid hNF; have HAF := hid hAF; have HTF := hid hTF
                clear hnew hrowsF hXF hIF hNF hAF hTF hio13 hnums13 hfs hX13 hf13 hown13 hg13 hX14 hrows14 hnums14 hI14 hN14 hfx hAx htx hio hgg hrow hrowge
                go_wp2_with fail
                go_roundw
                case rel => exact ⟨j - 1, by omega, by go_num, Hrel, HIF, HTF, HAF, HNF⟩
                case measure => simp [intOf] <;> omega
        · have hX := rec3_cells HX.out
          obtain ⟨q0, q1, q2⟩ := hX
          have hend : Hid (∃ p c ts, wr.heap[w.heap.size + 1]? = some (.cells #[.slice p ts.length c] 28 (0, 0)) ∧ OwnTabs w.heap.size wr (.slice p ts.length c) ts ∧ ts.length = k ∧ (∀ x ∈ ts, TSm x) ∧ ∀ g, (Value.slice p ts.length c).ownBlock = some g → g < wo.heap.size) := hid (by
            obtain ⟨p, c, ts, h1, h2, h3, h4⟩ := hM.out
            have hf := hT.out.offT HAw.out
            exact ⟨p, c, ts, hf.block _ _ _ h1 (by decide), OwnTabs.off h2 hf (by decide) (by decide) (by decide) (by decide), h3, h4, fun g hg => (OwnLs.lt h2 g hg).2⟩)
          have HRe := hid ((hT.out.offT HAw.out).block _ _ _ hR.out (by decide))
          obtain ⟨p, c, ts, hMe, htabs, hln, hsm, hlow⟩ := hend.out
          have hlk : ts.length ≤ 1000 := by omega
          have hmesz := (Array.getElem?_eq_some_iff.1 hMe).1
          have Hlow := hid hlow
          clear hlow
          have HMe := hid hMe; have Htabs := hid htabs; have Hln := hid hln; have Hsm := hid hsm
          clear hMe htabs hln hsm hend
          have htest : (j = 0) ∨ (0 < j ∧ decide ((0 : Int) < ar) = false) := by
            by_cases h1 : 0 < j
            · exact .inr ⟨h1, by simp; omega⟩
            · exact .inl (by omega)
          clear hgo
          obtain ⟨we, rfl⟩ : ∃ we, we = wr := ⟨_, rfl⟩
          cases hso : (so == 1)
          · rcases htest with rfl | ⟨t1, t2⟩
            ·
              have HXe := HX; have HTe := HTm; have HAe := HAw; have HIe := HI6; have Hrowse := Hrows; have Hrse := Hrs
              obtain ⟨de, hde⟩ : ∃ de, de = d6 := ⟨_, rfl⟩
              obtain ⟨pe, hpe⟩ : ∃ pe, pe = p6 := ⟨_, rfl⟩
              obtain ⟨ne, hne⟩ : ∃ ne, ne = n6 := ⟨_, rfl⟩
              obtain ⟨ce, hce⟩ : ∃ ce, ce = c6 := ⟨_, rfl⟩
              obtain ⟨zz, hzz'⟩ : ∃ zz, zz = z6 := ⟨_, rfl⟩
              subst hde hpe hne hce
              have hzz : NSm zz := by rw [hzz']; exact hsm6
              subst hzz'
              have hx := rec3_cells HXe.out
              obtain ⟨q0, q1, q2⟩ := hx
              have hm := one_cell HMe.out
              obtain ⟨m0, m1⟩ := hm
              have b17 := below1 we (.cells #[.slice pr rows.length cr, .bool de, .slice pe ne ce] 46)
              have n17 := heap_alloc_new we (.cells #[.slice pr rows.length cr, .bool de, .slice pe ne ce] 46)
              have z17 := size_alloc we (.cells #[.slice pr rows.length cr, .bool de, .slice pe ne ce] 46)
              generalize hW17 : we.alloc (.cells #[.slice pr rows.length cr, .bool de, .slice pe ne ce] 46) = W17 at *
              have hnews : ∀ j u, ([.slice pr rows.length cr, .bool de, .slice pe ne ce] : List Value)[j]? = some u → W17.cell? ((⟨we.heap.size, 0, none⟩ : Addr).add j) = some u := by
                intro j u hj
                rw [Go.WideShapes.add_plain, Nat.zero_add, cell_of_row _ _ _ _ _ _ n17]
                simpa using hj
              have hf17 : OffT [] we W17 := OffT.of_below b17
              have hM17 := hf17.block _ _ _ HMe.out (by decide)
              have m2 := one_cell hM17
              obtain ⟨m2, m3⟩ := m2
              have htabs := OwnTabs.off Htabs.out hf17 (by decide) (by decide) (by decide) (by decide)
              obtain ⟨xs, hrow, hgo⟩ := htabs.row
              have Hrow := hid hrow; have Hgo := hid hgo
              have Hnew17 := hid (show TabIoQ w.heap.size W17 [.slice pr rows.length cr, .bool de, .slice pe ne ce] ⟨rows, zz⟩ from ⟨_, _, _, rfl, OwnRows.weaken (OwnRows.off Hrowse.out hf17 (by decide) (by decide) (by decide)) (by omega), by
                have hie := hf17.own HIe.out (by decide)
                obtain ⟨s', es, hos⟩ := hie
                injection es with es
                simp only [Array.mk.injEq, List.cons.injEq, and_true] at es
                obtain ⟨es1, es2⟩ := es
                injection es1 with es1
                subst es1 es2
                exact ⟨_, rfl, (show IntOwn W17 wo.heap.size _ zz from ⟨_, rfl, hos⟩).mono (by omega)⟩⟩)
              have HT17 := hid (HTe.out.go b17)
              have HA17 := hid (HAe.out.go (Apart.of_below b17))
              have hR17 := hid (hf17.block _ _ _ HRe.out (by decide))
              have hsz17 : w.heap.size + 1 < W17.heap.size := by omega
              have HM17 := hid hM17
              clear hgo hM17 htabs n17 hf17
              go_wp2_with (at_builtin; refine wpList_append_own _ rfl _ _ 26 rfl w.heap.size 46 i2 _ 3 56 Tryz.underlying26 hiT ht0 ht1 ht2 rfl (by decide) _ ts.length _ rfl hrow ⟨we.heap.size, 0, none⟩ 1 1 [.slice pr rows.length cr, .bool de, .slice pe ne ce] rfl rfl hnews (by intro u hu; simp at hu; rcases hu with rfl | rfl | rfl <;> rfl) (by simp [maxLen]; omega) (by omega) (by omega) ?_; intro v18 w18 ho18 hg18 _; obtain ⟨p18, c18, rfl⟩ := ownsRow_shape ho18; have hf18 := OffT.of_grown Hrow.out hg18; have hM18 := hf18.block _ _ _ HM17.out (by decide); have m4 := one_cell hM18; obtain ⟨m4, m5⟩ := m4)
              have hfs := OffT.set hM18 0 (.slice p18 (ts.length + 1) c18)
              have hnew := Hgo.out w18 _ [.slice pr rows.length cr, .bool de, .slice pe ne ce] ⟨rows, zz⟩ ho18 rfl (fun c x hx => hx.off hf18 (by decide) (by decide) (by decide)) (Hnew17.out.off hf18 (by decide) (by decide) (by decide))
              have hnewF := OwnTabs.off hnew hfs (by decide) (by decide) (by decide) (by decide)
              have hMF : (w18.setCell ⟨w.heap.size + 1, 0, none⟩ (.slice p18 (ts.length + 1) c18)).heap[w.heap.size + 1]? = some (.cells #[.slice p18 (ts.length + 1) c18] 28 (0, 0)) := by simpa using heap_setCell_same w18 (w.heap.size + 1) 0 _ _ (.slice p18 (ts.length + 1) c18) hM18
              have hRF : (w18.setCell ⟨w.heap.size + 1, 0, none⟩ (.slice p18 (ts.length + 1) c18)).heap[w.heap.size]? = some (.cells #[.slice none 0 0] 28 (0, 0)) := (Below.heap_setCell _ _ _ _ (show w.heap.size ≠ w.heap.size + 1 by omega)).trans (hf18.block _ _ _ hR17.out (by decide))
              have hrowge : ∀ i, (Value.slice p ts.length c).ownBlock = some i → w.heap.size ≤ i := fun i hi2 => (World.ownsRow.lt Hrow.out i hi2).1
              have hAF : Apart (fun i => i = t) w (w18.setCell ⟨w.heap.size + 1, 0, none⟩ (.slice p18 (ts.length + 1) c18)) :=
                ((hA.out.go HA17.out).trans ((Apart.refl (fun i => (Value.slice p ts.length c).ownBlock = some i) W17).grown hg18 (fun k hk => hk)) (fun i hi2 => .inr (hrowge i hi2))).trans (Apart.setCell (p := ⟨w.heap.size + 1, 0, none⟩) (Apart.refl (fun i => i = w.heap.size + 1) w18) rfl _) (fun i hi2 => .inr (by omega))
              have hTF := HT17.out.off (hf18.mono (Ts' := [46, 28]) (by simp) |>.trans (hfs.mono (by simp))) (by decide) (((HT17.out.2.2.2.1.grown hg18 (by omega) (fun g hg => by have := hrowge g hg; omega))).setCell (p := ⟨w.heap.size + 1, 0, none⟩) (by show W0.heap.size ≤ w.heap.size + 1; omega) _)
              have Hrel := hid (show ∃ p c ts', (w18.setCell ⟨w.heap.size + 1, 0, none⟩ (.slice p18 (ts.length + 1) c18)).heap[w.heap.size + 1]? = some (.cells #[.slice p ts'.length c] 28 (0, 0)) ∧ OwnTabs w.heap.size (w18.setCell ⟨w.heap.size + 1, 0, none⟩ (.slice p18 (ts.length + 1) c18)) (.slice p ts'.length c) ts' ∧ ts'.length = k + 1 ∧ ∀ x ∈ ts', TSm x from
                ⟨p18, c18, ts ++ [⟨rows, zz⟩], by simpa using hMF, by simpa using hnewF, by simp [Hln.out], fun x hx => by
                  rcases List.mem_append.1 hx with h1 | h1
                  · exact Hsm.out x h1
                  · rw [List.mem_singleton.1 h1]; exact ⟨⟨show rows.length ≤ 3 by omega, Hrse.out⟩, hzz⟩⟩)
              have HRF := hid hRF; have HAF := hid hAF; have HTF := hid hTF
              clear hnew hnewF hMF hRF hAF hTF hfs hf18 hg18 ho18 hM18 hrowge
              go_roundw
              case rel => exact ⟨k + 1, by omega, by go_num, Hrel, HTF, HAF, HRF⟩
              case measure => simp [intOf] <;> omega
            ·
              have HXe := HX; have HTe := HTm; have HAe := HAw; have HIe := HI6; have Hrowse := Hrows; have Hrse := Hrs
              obtain ⟨de, hde⟩ : ∃ de, de = d6 := ⟨_, rfl⟩
              obtain ⟨pe, hpe⟩ : ∃ pe, pe = p6 := ⟨_, rfl⟩
              obtain ⟨ne, hne⟩ : ∃ ne, ne = n6 := ⟨_, rfl⟩
              obtain ⟨ce, hce⟩ : ∃ ce, ce = c6 := ⟨_, rfl⟩
              obtain ⟨zz, hzz'⟩ : ∃ zz, zz = z6 := ⟨_, rfl⟩
              subst hde hpe hne hce
              have hzz : NSm zz := by rw [hzz']; exact hsm6
              subst hzz'
              have hx := rec3_cells HXe.out
              obtain ⟨q0, q1, q2⟩ := hx
              have hm := one_cell HMe.out
              obtain ⟨m0, m1⟩ := hm
              have b17 := below1 we (.cells #[.slice pr rows.length cr, .bool de, .slice pe ne ce] 46)
              have n17 := heap_alloc_new we (.cells #[.slice pr rows.length cr, .bool de, .slice pe ne ce] 46)
              have z17 := size_alloc we (.cells #[.slice pr rows.length cr, .bool de, .slice pe ne ce] 46)
              generalize hW17 : we.alloc (.cells #[.slice pr rows.length cr, .bool de, .slice pe ne ce] 46) = W17 at *
              have hnews : ∀ j u, ([.slice pr rows.length cr, .bool de, .slice pe ne ce] : List Value)[j]? = some u → W17.cell? ((⟨we.heap.size, 0, none⟩ : Addr).add j) = some u := by
                intro j u hj
                rw [Go.WideShapes.add_plain, Nat.zero_add, cell_of_row _ _ _ _ _ _ n17]
                simpa using hj
              have hf17 : OffT [] we W17 := OffT.of_below b17
              have hM17 := hf17.block _ _ _ HMe.out (by decide)
              have m2 := one_cell hM17
              obtain ⟨m2, m3⟩ := m2
              have htabs := OwnTabs.off Htabs.out hf17 (by decide) (by decide) (by decide) (by decide)
              obtain ⟨xs, hrow, hgo⟩ := htabs.row
              have Hrow := hid hrow; have Hgo := hid hgo
              have Hnew17 := hid (show TabIoQ w.heap.size W17 [.slice pr rows.length cr, .bool de, .slice pe ne ce] ⟨rows, zz⟩ from ⟨_, _, _, rfl, OwnRows.weaken (OwnRows.off Hrowse.out hf17 (by decide) (by decide) (by decide)) (by omega), by
                have hie := hf17.own HIe.out (by decide)
                obtain ⟨s', es, hos⟩ := hie
                injection es with es
                simp only [Array.mk.injEq, List.cons.injEq, and_true] at es
                obtain ⟨es1, es2⟩ := es
                injection es1 with es1
                subst es1 es2
                exact ⟨_, rfl, (show IntOwn W17 wo.heap.size _ zz from ⟨_, rfl, hos⟩).mono (by omega)⟩⟩)
              have HT17 := hid (HTe.out.go b17)
              have HA17 := hid (HAe.out.go (Apart.of_below b17))
              have hR17 := hid (hf17.block _ _ _ HRe.out (by decide))
              have hsz17 : w.heap.size + 1 < W17.heap.size := by omega
              have HM17 := hid hM17
              clear hgo hM17 htabs n17 hf17
              go_wp2_with (at_builtin; refine wpList_append_own _ rfl _ _ 26 rfl w.heap.size 46 i2 _ 3 56 Tryz.underlying26 hiT ht0 ht1 ht2 rfl (by decide) _ ts.length _ rfl hrow ⟨we.heap.size, 0, none⟩ 1 1 [.slice pr rows.length cr, .bool de, .slice pe ne ce] rfl rfl hnews (by intro u hu; simp at hu; rcases hu with rfl | rfl | rfl <;> rfl) (by simp [maxLen]; omega) (by omega) (by omega) ?_; intro v18 w18 ho18 hg18 _; obtain ⟨p18, c18, rfl⟩ := ownsRow_shape ho18; have hf18 := OffT.of_grown Hrow.out hg18; have hM18 := hf18.block _ _ _ HM17.out (by decide); have m4 := one_cell hM18; obtain ⟨m4, m5⟩ := m4)
              have hfs := OffT.set hM18 0 (.slice p18 (ts.length + 1) c18)
              have hnew := Hgo.out w18 _ [.slice pr rows.length cr, .bool de, .slice pe ne ce] ⟨rows, zz⟩ ho18 rfl (fun c x hx => hx.off hf18 (by decide) (by decide) (by decide)) (Hnew17.out.off hf18 (by decide) (by decide) (by decide))
              have hnewF := OwnTabs.off hnew hfs (by decide) (by decide) (by decide) (by decide)
              have hMF : (w18.setCell ⟨w.heap.size + 1, 0, none⟩ (.slice p18 (ts.length + 1) c18)).heap[w.heap.size + 1]? = some (.cells #[.slice p18 (ts.length + 1) c18] 28 (0, 0)) := by simpa using heap_setCell_same w18 (w.heap.size + 1) 0 _ _ (.slice p18 (ts.length + 1) c18) hM18
              have hRF : (w18.setCell ⟨w.heap.size + 1, 0, none⟩ (.slice p18 (ts.length + 1) c18)).heap[w.heap.size]? = some (.cells #[.slice none 0 0] 28 (0, 0)) := (Below.heap_setCell _ _ _ _ (show w.heap.size ≠ w.heap.size + 1 by omega)).trans (hf18.block _ _ _ hR17.out (by decide))
              have hrowge : ∀ i, (Value.slice p ts.length c).ownBlock = some i → w.heap.size ≤ i := fun i hi2 => (World.ownsRow.lt Hrow.out i hi2).1
              have hAF : Apart (fun i => i = t) w (w18.setCell ⟨w.heap.size + 1, 0, none⟩ (.slice p18 (ts.length + 1) c18)) :=
                ((hA.out.go HA17.out).trans ((Apart.refl (fun i => (Value.slice p ts.length c).ownBlock = some i) W17).grown hg18 (fun k hk => hk)) (fun i hi2 => .inr (hrowge i hi2))).trans (Apart.setCell (p := ⟨w.heap.size + 1, 0, none⟩) (Apart.refl (fun i => i = w.heap.size + 1) w18) rfl _) (fun i hi2 => .inr (by omega))
              have hTF := HT17.out.off (hf18.mono (Ts' := [46, 28]) (by simp) |>.trans (hfs.mono (by simp))) (by decide) (((HT17.out.2.2.2.1.grown hg18 (by omega) (fun g hg => by have := hrowge g hg; omega))).setCell (p := ⟨w.heap.size + 1, 0, none⟩) (by show W0.heap.size ≤ w.heap.size + 1; omega) _)
              have Hrel := hid (show ∃ p c ts', (w18.setCell ⟨w.heap.size + 1, 0, none⟩ (.slice p18 (ts.length + 1) c18)).heap[w.heap.size + 1]? = some (.cells #[.slice p ts'.length c] 28 (0, 0)) ∧ OwnTabs w.heap.size (w18.setCell ⟨w.heap.size + 1, 0, none⟩ (.slice p18 (ts.length + 1) c18)) (.slice p ts'.length c) ts' ∧ ts'.length = k + 1 ∧ ∀ x ∈ ts', TSm x from
                ⟨p18, c18, ts ++ [⟨rows, zz⟩], by simpa using hMF, by simpa using hnewF, by simp [Hln.out], fun x hx => by
                  rcases List.mem_append.1 hx with h1 | h1
                  · exact Hsm.out x h1
                  · rw [List.mem_singleton.1 h1]; exact ⟨⟨show rows.length ≤ 3 by omega, Hrse.out⟩, hzz⟩⟩)
              have HRF := hid hRF; have HAF := hid hAF; have HTF := hid hTF
              clear hnew hnewF hMF hRF hAF hTF hfs hf18 hg18 ho18 hM18 hrowge
              go_roundw
              case rel => exact ⟨k + 1, by omega, by go_num, Hrel, HTF, HAF, HRF⟩
              case measure => simp [intOf] <;> omega
          · rcases htest with rfl | ⟨t1, t2⟩
            ·
              go_wp2_with fail
              clear q0 q1 q2 y0 y1 y2
              refine (Next_in 2 HTm.out (by decide)).mono ?_
              rintro e w20 ⟨k2, rfl, hk2, ht20, hA20⟩
              have hk2' : (k2 : Int) ≤ 1 := by omega
              have hf20 := HTm.out.offT hA20
              have HX20 := hid (hf20.block _ _ _ HX.out (by decide))
              have Hrows20 := hid (OwnRows.off Hrows.out hf20 (by decide) (by decide) (by decide))
              have HM20 := hid (hf20.block _ _ _ HMe.out (by decide))
              have Htabs20 := hid (OwnTabs.off Htabs.out hf20 (by decide) (by decide) (by decide) (by decide))
              have HR20 := hid (hf20.block _ _ _ HRe.out (by decide))
              have HA20 := hid (HAw.out.go hA20)
              have HT20 := hid ht20
              have hz20 := hA20.size
              clear hk2 ht20 hA20 hf20 HX Hrows HMe Htabs HRe HI6 HN
              go_wp2_with fail
              refine (ROf_own (k2 : Int) w20 (by omega) (by omega)).mono ?_
              rintro e w21 ⟨v21, rfl, i21, b21⟩
              obtain ⟨pe, ne, ce, rfl, i21⟩ := i21.shape
              have hzz : NSm (k2 : Int) := NSm.of (by omega) (by omega)
              generalize hzk : (k2 : Int) = zz at *
              obtain ⟨de, hde⟩ : ∃ de, de = decide (zz < 0) := ⟨_, rfl⟩
              rw [← hde] at i21 ⊢
              clear hde
              have hf21 : OffT [] w20 w21 := OffT.of_below b21
              have hx21 := hf21.block _ _ _ HX20.out (by decide)
              have hz21 := b21.size
              have hcc := rec3_cells hx21
              obtain ⟨q0, q1, q2⟩ := hcc
              have fz1 := frozen_all hx21 1
              have fz2 := frozen_all hx21 2
              have hs1 := OffT.set hx21 1 (.bool de)
              have hx22 : (w21.setCell ⟨gx, 1, none⟩ (.bool de)).heap[gx]? = some (.cells #[.slice pr rows.length cr, .bool de, .slice p6 n6 c6] 46 (0, 0)) := by simpa using heap_setCell_same w21 gx 1 _ _ (.bool de) hx21
              have hs2 := OffT.set hx22 2 (.slice pe ne ce)
              have hx23 : ((w21.setCell ⟨gx, 1, none⟩ (.bool de)).setCell ⟨gx, 2, none⟩ (.slice pe ne ce)).heap[gx]? = some (.cells #[.slice pr rows.length cr, .bool de, .slice pe ne ce] 46 (0, 0)) := by simpa using heap_setCell_same (w21.setCell ⟨gx, 1, none⟩ (.bool de)) gx 2 _ _ (.slice pe ne ce) hx22
              have hs12 := hs1.trans hs2
              have hAs : Apart (fun i => i = gx) w21 ((w21.setCell ⟨gx, 1, none⟩ (.bool de)).setCell ⟨gx, 2, none⟩ (.slice pe ne ce)) := Apart.setCell (p := ⟨gx, 2, none⟩) (Apart.setCell (p := ⟨gx, 1, none⟩) (Apart.refl (fun i => i = gx) w21) rfl _) rfl _
              have hBs := (((HT20.out.go b21).2.2.2.1).setCell (p := ⟨gx, 1, none⟩) (show W0.heap.size ≤ gx by omega) (.bool de)).setCell (p := ⟨gx, 2, none⟩) (show W0.heap.size ≤ gx by omega) (.slice pe ne ce)
              generalize hW23 : (w21.setCell ⟨gx, 1, none⟩ (.bool de)).setCell ⟨gx, 2, none⟩ (.slice pe ne ce) = w23 at *
              have HXe := hid hx23
              have Hrowse := hid (OwnRows.off (OwnRows.off Hrows20.out hf21 (by decide) (by decide) (by decide)) hs12 (by decide) (by decide) (by decide))
              have HMe := hid (hs12.block _ _ _ (hf21.block _ _ _ HM20.out (by decide)) (by decide))
              have HRe := hid (hs12.block _ _ _ (hf21.block _ _ _ HR20.out (by decide)) (by decide))
              have HIe := hid ((hs12.own i21 (by decide)).mono (show wo.heap.size ≤ w20.heap.size by omega))
              have HTe := hid ((HT20.out.go b21).off hs12 (by decide) hBs)
              have HAe := hid ((HA20.out.go (Apart.of_below b21)).trans hAs (fun i hi2 => .inr (by omega)))
              have Hrse := Hrs
              have hz23 := hAs.size
              have Htabs21 := hid (OwnTabs.off Htabs20.out hf21 (by decide) (by decide) (by decide) (by decide))
              have Htabs : Hid (OwnTabs w.heap.size w23 (.slice p ts.length c) ts) := hid (OwnLs.kept Htabs21.out (fun g hg => hAs.block g (OwnLs.lt Htabs21.out g hg).2 (fun e => by
                have h1 := Hlow.out g hg
                have e : g = gx := e
                omega)) (fun c x hx => hx.off hs12 (by decide) (by decide) (by decide)))
              clear hs1 hx22 hs2 hx23 hs12 hAs hBs hf21 hx21 i21 b21 HX20 Hrows20 HM20 Htabs20 HR20 HA20 HT20 Htabs21
              obtain ⟨we2, rfl⟩ : ∃ we2, we2 = we := ⟨_, rfl⟩
              obtain ⟨we, rfl⟩ : ∃ we, we = w23 := ⟨_, rfl⟩
              have hx := rec3_cells HXe.out
              obtain ⟨q0, q1, q2⟩ := hx
              have hm := one_cell HMe.out
              obtain ⟨m0, m1⟩ := hm
              have b17 := below1 we (.cells #[.slice pr rows.length cr, .bool de, .slice pe ne ce] 46)
              have n17 := heap_alloc_new we (.cells #[.slice pr rows.length cr, .bool de, .slice pe ne ce] 46)
              have z17 := size_alloc we (.cells #[.slice pr rows.length cr, .bool de, .slice pe ne ce] 46)
              generalize hW17 : we.alloc (.cells #[.slice pr rows.length cr, .bool de, .slice pe ne ce] 46) = W17 at *
              have hnews : ∀ j u, ([.slice pr rows.length cr, .bool de, .slice pe ne ce] : List Value)[j]? = some u → W17.cell? ((⟨we.heap.size, 0, none⟩ : Addr).add j) = some u := by
                intro j u hj
                rw [Go.WideShapes.add_plain, Nat.zero_add, cell_of_row _ _ _ _ _ _ n17]
                simpa using hj
              have hf17 : OffT [] we W17 := OffT.of_below b17
              have hM17 := hf17.block _ _ _ HMe.out (by decide)
              have m2 := one_cell hM17
              obtain ⟨m2, m3⟩ := m2
              have htabs := OwnTabs.off Htabs.out hf17 (by decide) (by decide) (by decide) (by decide)
              obtain ⟨xs, hrow, hgo⟩ := htabs.row
              have Hrow := hid hrow; have Hgo := hid hgo
              have Hnew17 := hid (show TabIoQ w.heap.size W17 [.slice pr rows.length cr, .bool de, .slice pe ne ce] ⟨rows, zz⟩ from ⟨_, _, _, rfl, OwnRows.weaken (OwnRows.off Hrowse.out hf17 (by decide) (by decide) (by decide)) (by omega), by
                have hie := hf17.own HIe.out (by decide)
                obtain ⟨s', es, hos⟩ := hie
                injection es with es
                simp only [Array.mk.injEq, List.cons.injEq, and_true] at es
                obtain ⟨es1, es2⟩ := es
                injection es1 with es1
                subst es1 es2
                exact ⟨_, rfl, (show IntOwn W17 wo.heap.size _ zz from ⟨_, rfl, hos⟩).mono (by omega)⟩⟩)
              have HT17 := hid (HTe.out.go b17)
              have HA17 := hid (HAe.out.go (Apart.of_below b17))
              have hR17 := hid (hf17.block _ _ _ HRe.out (by decide))
              have hsz17 : w.heap.size + 1 < W17.heap.size := by omega
              have HM17 := hid hM17
              clear hgo hM17 htabs n17 hf17
              go_wp2_with (at_builtin; refine wpList_append_own _ rfl _ _ 26 rfl w.heap.size 46 i2 _ 3 56 Tryz.underlying26 hiT ht0 ht1 ht2 rfl (by decide) _ ts.length _ rfl hrow ⟨we.heap.size, 0, none⟩ 1 1 [.slice pr rows.length cr, .bool de, .slice pe ne ce] rfl rfl hnews (by intro u hu; simp at hu; rcases hu with rfl | rfl | rfl <;> rfl) (by simp [maxLen]; omega) (by omega) (by omega) ?_; intro v18 w18 ho18 hg18 _; obtain ⟨p18, c18, rfl⟩ := ownsRow_shape ho18; have hf18 := OffT.of_grown Hrow.out hg18; have hM18 := hf18.block _ _ _ HM17.out (by decide); have m4 := one_cell hM18; obtain ⟨m4, m5⟩ := m4)
              have hfs := OffT.set hM18 0 (.slice p18 (ts.length + 1) c18)
              have hnew := Hgo.out w18 _ [.slice pr rows.length cr, .bool de, .slice pe ne ce] ⟨rows, zz⟩ ho18 rfl (fun c x hx => hx.off hf18 (by decide) (by decide) (by decide)) (Hnew17.out.off hf18 (by decide) (by decide) (by decide))
              have hnewF := OwnTabs.off hnew hfs (by decide) (by decide) (by decide) (by decide)
              have hMF : (w18.setCell ⟨w.heap.size + 1, 0, none⟩ (.slice p18 (ts.length + 1) c18)).heap[w.heap.size + 1]? = some (.cells #[.slice p18 (ts.length + 1) c18] 28 (0, 0)) := by simpa using heap_setCell_same w18 (w.heap.size + 1) 0 _ _ (.slice p18 (ts.length + 1) c18) hM18
              have hRF : (w18.setCell ⟨w.heap.size + 1, 0, none⟩ (.slice p18 (ts.length + 1) c18)).heap[w.heap.size]? = some (.cells #[.slice none 0 0] 28 (0, 0)) := (Below.heap_setCell _ _ _ _ (show w.heap.size ≠ w.heap.size + 1 by omega)).trans (hf18.block _ _ _ hR17.out (by decide))
              have hrowge : ∀ i, (Value.slice p ts.length c).ownBlock = some i → w.heap.size ≤ i := fun i hi2 => (World.ownsRow.lt Hrow.out i hi2).1
              have hAF : Apart (fun i => i = t) w (w18.setCell ⟨w.heap.size + 1, 0, none⟩ (.slice p18 (ts.length + 1) c18)) :=
                ((hA.out.go HA17.out).trans ((Apart.refl (fun i => (Value.slice p ts.length c).ownBlock = some i) W17).grown hg18 (fun k hk => hk)) (fun i hi2 => .inr (hrowge i hi2))).trans (Apart.setCell (p := ⟨w.heap.size + 1, 0, none⟩) (Apart.refl (fun i => i = w.heap.size + 1) w18) rfl _) (fun i hi2 => .inr (by omega))
              have hTF := HT17.out.off (hf18.mono (Ts' := [46, 28]) (by simp) |>.trans (hfs.mono (by simp))) (by decide) (((HT17.out.2.2.2.1.grown hg18 (by omega) (fun g hg => by have := hrowge g hg; omega))).setCell (p := ⟨w.heap.size + 1, 0, none⟩) (by show W0.heap.size ≤ w.heap.size + 1; omega) _)
              have Hrel := hid (show ∃ p c ts', (w18.setCell ⟨w.heap.size + 1, 0, none⟩ (.slice p18 (ts.length + 1) c18)).heap[w.heap.size + 1]? = some (.cells #[.slice p ts'.length c] 28 (0, 0)) ∧ OwnTabs w.heap.size (w18.setCell ⟨w.heap.size + 1, 0, none⟩ (.slice p18 (ts.length + 1) c18)) (.slice p ts'.length c) ts' ∧ ts'.length = k + 1 ∧ ∀ x ∈ ts', TSm x from
                ⟨p18, c18, ts ++ [⟨rows, zz⟩], by simpa using hMF, by simpa using hnewF, by simp [Hln.out], fun x hx => by
                  rcases List.mem_append.1 hx with h1 | h1
                  · exact Hsm.out x h1
                  · rw [List.mem_singleton.1 h1]; exact ⟨⟨show rows.length ≤ 3 by omega, Hrse.out⟩, hzz⟩⟩)
              have HRF := hid hRF; have HAF := hid hAF; have HTF := hid hTF
              clear hnew hnewF hMF hRF hAF hTF hfs hf18 hg18 ho18 hM18 hrowge
              go_roundw
              case rel => exact ⟨k + 1, by omega, by go_num, Hrel, HTF, HAF, HRF⟩
              case measure => simp [intOf] <;> omega
            ·
              go_wp2_with fail
              clear q0 q1 q2 y0 y1 y2
              refine (Next_in 2 HTm.out (by decide)).mono ?_
              rintro e w20 ⟨k2, rfl, hk2, ht20, hA20⟩
              have hk2' : (k2 : Int) ≤ 1 := by omega
              have hf20 := HTm.out.offT hA20
              have HX20 := hid (hf20.block _ _ _ HX.out (by decide))
              have Hrows20 := hid (OwnRows.off Hrows.out hf20 (by decide) (by decide) (by decide))
              have HM20 := hid (hf20.block _ _ _ HMe.out (by decide))
              have Htabs20 := hid (OwnTabs.off Htabs.out hf20 (by decide) (by decide) (by decide) (by decide))
              have HR20 := hid (hf20.block _ _ _ HRe.out (by decide))
              have HA20 := hid (HAw.out.go hA20)
              have HT20 := hid ht20
              have hz20 := hA20.size
              clear hk2 ht20 hA20 hf20 HX Hrows HMe Htabs HRe HI6 HN
              go_wp2_with fail
              refine (ROf_own (k2 : Int) w20 (by omega) (by omega)).mono ?_
              rintro e w21 ⟨v21, rfl, i21, b21⟩
              obtain ⟨pe, ne, ce, rfl, i21⟩ := i21.shape
              have hzz : NSm (k2 : Int) := NSm.of (by omega) (by omega)
              generalize hzk : (k2 : Int) = zz at *
              obtain ⟨de, hde⟩ : ∃ de, de = decide (zz < 0) := ⟨_, rfl⟩
              rw [← hde] at i21 ⊢
              clear hde
              have hf21 : OffT [] w20 w21 := OffT.of_below b21
              have hx21 := hf21.block _ _ _ HX20.out (by decide)
              have hz21 := b21.size
              have hcc := rec3_cells hx21
              obtain ⟨q0, q1, q2⟩ := hcc
              have fz1 := frozen_all hx21 1
              have fz2 := frozen_all hx21 2
              have hs1 := OffT.set hx21 1 (.bool de)
              have hx22 : (w21.setCell ⟨gx, 1, none⟩ (.bool de)).heap[gx]? = some (.cells #[.slice pr rows.length cr, .bool de, .slice p6 n6 c6] 46 (0, 0)) := by simpa using heap_setCell_same w21 gx 1 _ _ (.bool de) hx21
              have hs2 := OffT.set hx22 2 (.slice pe ne ce)
              have hx23 : ((w21.setCell ⟨gx, 1, none⟩ (.bool de)).setCell ⟨gx, 2, none⟩ (.slice pe ne ce)).heap[gx]? = some (.cells #[.slice pr rows.length cr, .bool de, .slice pe ne ce] 46 (0, 0)) := by simpa using heap_setCell_same (w21.setCell ⟨gx, 1, none⟩ (.bool de)) gx 2 _ _ (.slice pe ne ce) hx22
              have hs12 := hs1.trans hs2
              have hAs : Apart (fun i => i = gx) w21 ((w21.setCell ⟨gx, 1, none⟩ (.bool de)).setCell ⟨gx, 2, none⟩ (.slice pe ne ce)) := Apart.setCell (p := ⟨gx, 2, none⟩) (Apart.setCell (p := ⟨gx, 1, none⟩) (Apart.refl (fun i => i = gx) w21) rfl _) rfl _
              have hBs := (((HT20.out.go b21).2.2.2.1).setCell (p := ⟨gx, 1, none⟩) (show W0.heap.size ≤ gx by omega) (.bool de)).setCell (p := ⟨gx, 2, none⟩) (show W0.heap.size ≤ gx by omega) (.slice pe ne ce)
              generalize hW23 : (w21.setCell ⟨gx, 1, none⟩ (.bool de)).setCell ⟨gx, 2, none⟩ (.slice pe ne ce) = w23 at *
              have HXe := hid hx23
              have Hrowse := hid (OwnRows.off (OwnRows.off Hrows20.out hf21 (by decide) (by decide) (by decide)) hs12 (by decide) (by decide) (by decide))
              have HMe := hid (hs12.block _ _ _ (hf21.block _ _ _ HM20.out (by decide)) (by decide))
              have HRe := hid (hs12.block _ _ _ (hf21.block _ _ _ HR20.out (by decide)) (by decide))
              have HIe := hid ((hs12.own i21 (by decide)).mono (show wo.heap.size ≤ w20.heap.size by omega))
              have HTe := hid ((HT20.out.go b21).off hs12 (by decide) hBs)
              have HAe := hid ((HA20.out.go (Apart.of_below b21)).trans hAs (fun i hi2 => .inr (by omega)))
              have Hrse := Hrs
              have hz23 := hAs.size
              have Htabs21 := hid (OwnTabs.off Htabs20.out hf21 (by decide) (by decide) (by decide) (by decide))
              have Htabs : Hid (OwnTabs w.heap.size w23 (.slice p ts.length c) ts) := hid (OwnLs.kept Htabs21.out (fun g hg => hAs.block g (OwnLs.lt Htabs21.out g hg).2 (fun e => by
                have h1 := Hlow.out g hg
                have e : g = gx := e
                omega)) (fun c x hx => hx.off hs12 (by decide) (by decide) (by decide)))
              clear hs1 hx22 hs2 hx23 hs12 hAs hBs hf21 hx21 i21 b21 HX20 Hrows20 HM20 Htabs20 HR20 HA20 HT20 Htabs21
              obtain ⟨we2, rfl⟩ : ∃ we2, we2 = we := ⟨_, rfl⟩
              obtain ⟨we, rfl⟩ : ∃ we, we = w23 := ⟨_, rfl⟩
              have hx := rec3_cells HXe.out
              obtain ⟨q0, q1, q2⟩ := hx
              have hm := one_cell HMe.out
              obtain ⟨m0, m1⟩ := hm
              have b17 := below1 we (.cells #[.slice pr rows.length cr, .bool de, .slice pe ne ce] 46)
              have n17 := heap_alloc_new we (.cells #[.slice pr rows.length cr, .bool de, .slice pe ne ce] 46)
              have z17 := size_alloc we (.cells #[.slice pr rows.length cr, .bool de, .slice pe ne ce] 46)
              generalize hW17 : we.alloc (.cells #[.slice pr rows.length cr, .bool de, .slice pe ne ce] 46) = W17 at *
              have hnews : ∀ j u, ([.slice pr rows.length cr, .bool de, .slice pe ne ce] : List Value)[j]? = some u → W17.cell? ((⟨we.heap.size, 0, none⟩ : Addr).add j) = some u := by
                intro j u hj
                rw [Go.WideShapes.add_plain, Nat.zero_add, cell_of_row _ _ _ _ _ _ n17]
                simpa using hj
              have hf17 : OffT [] we W17 := OffT.of_below b17
              have hM17 := hf17.block _ _ _ HMe.out (by decide)
              have m2 := one_cell hM17
              obtain ⟨m2, m3⟩ := m2
              have htabs := OwnTabs.off Htabs.out hf17 (by decide) (by decide) (by decide) (by decide)
              obtain ⟨xs, hrow, hgo⟩ := htabs.row
              have Hrow := hid hrow; have Hgo := hid hgo
              have Hnew17 := hid (show TabIoQ w.heap.size W17 [.slice pr rows.length cr, .bool de, .slice pe ne ce] ⟨rows, zz⟩ from ⟨_, _, _, rfl, OwnRows.weaken (OwnRows.off Hrowse.out hf17 (by decide) (by decide) (by decide)) (by omega), by
                have hie := hf17.own HIe.out (by decide)
                obtain ⟨s', es, hos⟩ := hie
                injection es with es
                simp only [Array.mk.injEq, List.cons.injEq, and_true] at es
                obtain ⟨es1, es2⟩ := es
                injection es1 with es1
                subst es1 es2
                exact ⟨_, rfl, (show IntOwn W17 wo.heap.size _ zz from ⟨_, rfl, hos⟩).mono (by omega)⟩⟩)
              have HT17 := hid (HTe.out.go b17)
              have HA17 := hid (HAe.out.go (Apart.of_below b17))
              have hR17 := hid (hf17.block _ _ _ HRe.out (by decide))
              have hsz17 : w.heap.size + 1 < W17.heap.size := by omega
              have HM17 := hid hM17
              clear hgo hM17 htabs n17 hf17
              go_wp2_with (at_builtin; refine wpList_append_own _ rfl _ _ 26 rfl w.heap.size 46 i2 _ 3 56 Tryz.underlying26 hiT ht0 ht1 ht2 rfl (by decide) _ ts.length _ rfl hrow ⟨we.heap.size, 0, none⟩ 1 1 [.slice pr rows.length cr, .bool de, .slice pe ne ce] rfl rfl hnews (by intro u hu; simp at hu; rcases hu with rfl | rfl | rfl <;> rfl) (by simp [maxLen]; omega) (by omega) (by omega) ?_; intro v18 w18 ho18 hg18 _; obtain ⟨p18, c18, rfl⟩ := ownsRow_shape ho18; have hf18 := OffT.of_grown Hrow.out hg18; have hM18 := hf18.block _ _ _ HM17.out (by decide); have m4 := one_cell hM18; obtain ⟨m4, m5⟩ := m4)
              have hfs := OffT.set hM18 0 (.slice p18 (ts.length + 1) c18)
              have hnew := Hgo.out w18 _ [.slice pr rows.length cr, .bool de, .slice pe ne ce] ⟨rows, zz⟩ ho18 rfl (fun c x hx => hx.off hf18 (by decide) (by decide) (by decide)) (Hnew17.out.off hf18 (by decide) (by decide) (by decide))
              have hnewF := OwnTabs.off hnew hfs (by decide) (by decide) (by decide) (by decide)
              have hMF : (w18.setCell ⟨w.heap.size + 1, 0, none⟩ (.slice p18 (ts.length + 1) c18)).heap[w.heap.size + 1]? = some (.cells #[.slice p18 (ts.length + 1) c18] 28 (0, 0)) := by simpa using heap_setCell_same w18 (w.heap.size + 1) 0 _ _ (.slice p18 (ts.length + 1) c18) hM18
              have hRF : (w18.setCell ⟨w.heap.size + 1, 0, none⟩ (.slice p18 (ts.length + 1) c18)).heap[w.heap.size]? = some (.cells #[.slice none 0 0] 28 (0, 0)) := (Below.heap_setCell _ _ _ _ (show w.heap.size ≠ w.heap.size + 1 by omega)).trans (hf18.block _ _ _ hR17.out (by decide))
              have hrowge : ∀ i, (Value.slice p ts.length c).ownBlock = some i → w.heap.size ≤ i := fun i hi2 => (World.ownsRow.lt Hrow.out i hi2).1
              have hAF : Apart (fun i => i = t) w (w18.setCell ⟨w.heap.size + 1, 0, none⟩ (.slice p18 (ts.length + 1) c18)) :=
                ((hA.out.go HA17.out).trans ((Apart.refl (fun i => (Value.slice p ts.length c).ownBlock = some i) W17).grown hg18 (fun k hk => hk)) (fun i hi2 => .inr (hrowge i hi2))).trans (Apart.setCell (p := ⟨w.heap.size + 1, 0, none⟩) (Apart.refl (fun i => i = w.heap.size + 1) w18) rfl _) (fun i hi2 => .inr (by omega))
              have hTF := HT17.out.off (hf18.mono (Ts' := [46, 28]) (by simp) |>.trans (hfs.mono (by simp))) (by decide) (((HT17.out.2.2.2.1.grown hg18 (by omega) (fun g hg => by have := hrowge g hg; omega))).setCell (p := ⟨w.heap.size + 1, 0, none⟩) (by show W0.heap.size ≤ w.heap.size + 1; omega) _)
              have Hrel := hid (show ∃ p c ts', (w18.setCell ⟨w.heap.size + 1, 0, none⟩ (.slice p18 (ts.length + 1) c18)).heap[w.heap.size + 1]? = some (.cells #[.slice p ts'.length c] 28 (0, 0)) ∧ OwnTabs w.heap.size (w18.setCell ⟨w.heap.size + 1, 0, none⟩ (.slice p18 (ts.length + 1) c18)) (.slice p ts'.length c) ts' ∧ ts'.length = k + 1 ∧ ∀ x ∈ ts', TSm x from
                ⟨p18, c18, ts ++ [⟨rows, zz⟩], by simpa using hMF, by simpa using hnewF, by simp [Hln.out], fun x hx => by
                  rcases List.mem_append.1 hx with h1 | h1
                  · exact Hsm.out x h1
                  · rw [List.mem_singleton.1 h1]; exact ⟨⟨show rows.length ≤ 3 by omega, Hrse.out⟩, hzz⟩⟩)
              have HRF := hid hRF; have HAF := hid hAF; have HTF := hid hTF
              clear hnew hnewF hMF hRF hAF hTF hfs hf18 hg18 ho18 hM18 hrowge
              go_roundw
              case rel => exact ⟨k + 1, by omega, by go_num, Hrel, HTF, HAF, HRF⟩
              case measure => simp [intOf] <;> omega
    · obtain rfl : k = S := by omega
      obtain ⟨p, c, ts, hMe, htabs, hln, hsm⟩ := hM.out
      have hx := one_cell hMe
      obtain ⟨m0, m1⟩ := hx
      have hr := one_cell hR.out
      obtain ⟨r0, r1⟩ := hr
      have hfs := OffT.set hR.out 0 (.slice p ts.length c)
      have hq : (wr.setCell ⟨w.heap.size, 0, none⟩ (.slice p ts.length c)).heap[w.heap.size]? = some (.cells #[.slice p ts.length c] 28 (0, 0)) := by simpa using heap_setCell_same wr w.heap.size 0 _ _ (.slice p ts.length c) hR.out
      have q0 := (one_cell hq).1
      have H1 := hid (OwnTabs.off htabs hfs (by decide) (by decide) (by decide) (by decide))
      have H2 := hid (hT.out.off hfs (by decide) (hT.out.2.2.2.1.setCell (p := ⟨w.heap.size, 0, none⟩) hW0 _))
      have H3 := hid (hA.out.trans (Apart.setCell (p := ⟨w.heap.size, 0, none⟩) (Apart.refl (fun i => i = w.heap.size) wr) rfl (.slice p ts.length c)) (fun i hi2 => .inr (by omega)))
      have Hln := hid hln; have Hsm := hid hsm
      clear htabs hfs hq hMe hln hsm
      go_wp2
      exact bodyPost_ret (v := .agg #[.slice p ts.length c]) (by simp [results, Tryz.results18, go_sem, q0]) rfl ⟨_, ts, rfl, H1.out, Hln.out, Hsm.out, H2.out, H3.out⟩
end Go.Proofs.YtckkpolikdnilaaGreatDoor
/- elenchusref05.Eval and True. -/
namespace Go.Proofs.YtckkpolikdnilaaGreatDoor
open Go.RowKit Big Go.WideMaps

def RTVals (l : List Int) (w : World) (e : Ending) (w' : World) : Prop := ∃ v, e = .returned (.tuple #[v, .int .i64 0]) ∧ NumsTold w' v l ∧ Below w.heap.size w w'
end Go.Proofs.YtckkpolikdnilaaGreatDoor
/- elenchusref04.Few; PoolChecks answers true. -/
namespace Go.Proofs.YtckkpolikdnilaaGreatDoor
open Go.RowKit Big Go.WideMaps

def fewT (x : Tx) : Bool := decide (x.args.length ≤ 70) && decide (x.words.length ≤ 8)
def plFew (sy : List Sy) (tx : List Tx) : Bool := decide (sy.length ≤ 40) && decide (tx.length ≤ 200) && tx.all fewT
theorem TxsIn.below {w w' : World} {v : Value} {l : List Tx} (h : TxsIn w v l) (hb : Below w.heap.size w w') : TxsIn w' v l := by
  obtain ⟨p, cap, rfl, h1, h2, h3, h4⟩ := h
  refine ⟨p, cap, rfl, h1, h2, h3, fun hp => ?_⟩
  obtain ⟨b, off, h5, h6, h7⟩ := h4 hp
  refine ⟨b, off, h5, Nat.lt_of_lt_of_le h6 hb.size, fun i hi => ?_⟩
  obtain ⟨c0, c1, c2, c3, c4, e0, e1, e2, e3, e4, ht⟩ := h7 i hi
  have c : ∀ o, w'.cell? ⟨b, o, none⟩ = w.cell? ⟨b, o, none⟩ := fun o => hb.cell (p := ⟨b, o, none⟩) h6
  exact ⟨c0, c1, c2, c3, c4, (c _).trans e0, (c _).trans e1, (c _).trans e2, (c _).trans e3, (c _).trans e4, ht.below hb⟩
theorem TxsIn.small {w : World} {v : Value} {l : List Tx} (h : TxsIn w v l) : ∀ x ∈ l, Small W x.words := by
  obtain ⟨p, cap, rfl, h1, h2, h3, h4⟩ := h
  intro x hx
  obtain ⟨i, hi, rfl⟩ := List.mem_iff_getElem.1 hx
  obtain ⟨b, off, -, -, hc⟩ := h4 (by omega)
  obtain ⟨c0, c1, c2, c3, c4, -, -, -, -, -, ⟨_, _, _, _, _, _, _, hs⟩⟩ := hc i hi
  exact hs
end Go.Proofs.YtckkpolikdnilaaGreatDoor
/- ValueEvals answers true. -/
namespace Go.Proofs.YtckkpolikdnilaaGreatDoor
open Go.RowKit Big Go.WideMaps

theorem steps_of_check {syms : List Sy} {terms : List Tm} (h : plCheck syms terms = 0) : Steps ⟨syms, [], []⟩ terms := by
  unfold plCheck at h
  split at h
  · next h1 => exact absurd h h1
  · exact steps_of_news terms ⟨syms, [], []⟩ (by simp) h
/-- what both Evals answer -/
def RBoth (syms : List Sy) (terms : List Tm) (ts : List Tb5) (w : World) (e : Ending) (w' : World) : Prop :=
  ∃ v c, e = .returned (.tuple #[v, .int .i64 c]) ∧ c = (if plCheck syms terms ≠ 0 then plCheck syms terms else if ts.length < syms.length then 13 else 0) ∧ NumsTold w' v (if plCheck syms terms ≠ 0 ∨ ts.length < syms.length then [] else vlEval syms ts terms []) ∧ Below w.heap.size w w'
/-- what is asked of rows and models that are asked about -/
structure VlAsk (N : Nat) (syms : List Sy) (terms : List Tm) (ts : List Tb5) : Prop where
  one : 1 ≤ N
  name : ∀ s ∈ syms, s.name.length ≤ 281474976710656
  args : ∀ t ∈ terms, t.args.length ≤ 1048576
  num : ∀ t ∈ terms, sz Big.W t.num.natAbs ≤ N
  len : terms.length * N ≤ 268435456
  sized : Sized N ts
  rows : Rows9 ts
theorem VlAsk.small {N : Nat} {syms : List Sy} {terms : List Tm} {ts : List Tb5} (h : VlAsk N syms terms ts) : ∀ t ∈ terms, sz Big.W t.num.natAbs ≤ 549755813888 := by
  intro t ht
  have h1 := h.num t ht
  have h2 : 0 < terms.length := List.length_pos_of_mem ht
  have h3 : N ≤ terms.length * N := Nat.le_mul_of_pos_left _ h2
  have h4 := h.len
  omega
theorem VlAsk.few {N : Nat} {syms : List Sy} {terms : List Tm} {ts : List Tb5} (h : VlAsk N syms terms ts) : terms.length ≤ 1048576 * 256 := Nat.le_trans (Nat.le_mul_of_pos_right _ h.one) (Nat.le_trans h.len (by decide))
theorem TbxsIn.ask {w : World} {v : Value} {l : List Tbx} (h : TbxsIn w v l) (hf : ∀ x ∈ l, x.fit) : Rows9 (l.map Tbx.t) := by
  intro t ht
  obtain ⟨x, hx, rfl⟩ := List.mem_map.1 ht
  obtain ⟨i, hi, rfl⟩ := List.mem_iff_getElem.1 hx
  obtain ⟨b, o, c, cs, -, -, -, hq⟩ := h.at i hi
  exact hq.rows9 (hf _ hx)
end Go.Proofs.YtckkpolikdnilaaGreatDoor
/- What the laws over tapes share: rows and a model that elenchusmake makes, their values by the program and by the reference. -/
namespace Go.Proofs.YtckkpolikdnilaaGreatDoor
open Go.RowKit Big Go.WideMaps

theorem mkSyms_ok5 : plNewErr mkSyms = 0 := by kernel_rfl
/-- what is asked of made rows and models -/
theorem mk_ask {p : Po} {ts : List Tb5} (hp : MkP p) (hsy : p.syms = mkSyms) (hts : ∀ t ∈ ts, TSm t) : VlAsk 8 p.syms p.terms ts := {
  one := by decide
  name := by rw [hsy]; decide
  args := fun t ht => Nat.le_trans (hp.small t ht).1 (by decide)
  num := fun t ht => (hp.small t ht).2
  len := by have := hp.good.2.1; omega
  sized := fun t ht => ⟨Nat.le_trans (hts t ht).2 (by decide), fun r hr => Nat.le_trans ((hts t ht).1.2 r hr).2 (by decide)⟩
  rows := rows9_small hts }
theorem mk_check {p : Po} (hp : MkP p) (hsy : p.syms = mkSyms) : plCheck p.syms p.terms = 0 := hp.self.check (by rw [hsy]; exact mkSyms_ok5)
theorem mk_eval {p : Po} {ts : List Tb5} (hp : MkP p) (hsy : p.syms = mkSyms) (hts : ∀ t ∈ ts, TSm t) (hl : p.syms.length ≤ ts.length) (vs vt vm : Value) (w : World) (htab : Tb w.heap.size w) (hs : SyIn w vs p.syms) (ht : TmsIn w vt p.terms) (hm : TabsIn w vm ts) :
    Calls Tryz.prog 11 #[.agg #[vs, vt], .agg #[vm]] w (RVals (vlEval p.syms ts p.terms []) w) := by
  have ha := mk_ask hp hsy hts
  have hc := mk_check hp hsy
  exact Eval_ok vs vt vm p.syms p.terms ts w htab hs ht hm ha.name ha.args hc hl (Nat.le_trans hp.good.2.1 (by decide)) (fit_at ha.one ha.sized (steps_of_check hc) ha.num hl ha.len)
end Go.Proofs.YtckkpolikdnilaaGreatDoor
/- A table's new row: what ValueTables asks of tables. -/
namespace Go.Proofs.YtckkpolikdnilaaGreatDoor
open Go.RowKit Big Go.WideMaps

/-- a number of one word -/
def NumSm (z : Int) : Prop := sz Big.W z.natAbs ≤ 1
theorem NumSm.of {z : Int} (h0 : -9223372036854775808 ≤ z) (h1 : z ≤ 9223372036854775807) : NumSm z := by
  refine sz_le_of_lt W2 ?_
  rw [Nat.pow_one]
  unfold Big.W
  omega
def eqU (v0 : Value) : SFact := ⟨fun v _ => v = v0, fun _ _ _ h _ => h⟩
def resU (z : Int) : SFact := ⟨fun v w => ∃ d p n c, v = .agg #[.bool d, .slice p n c] ∧ IntAt w v z, fun _ _ _ ⟨d, p, n, c, h1, h2⟩ hb => ⟨d, p, n, c, h1, h2.below hb⟩⟩
def boxU (B : Nat) : SFact := ⟨fun v w => ∃ g, v = .pointer (some ⟨g, 0, none⟩) ∧ Pair w g 44 ∧ B ≤ g, fun _ _ _ ⟨g, h1, h2, h3⟩ hb => ⟨g, h1, h2.below hb, h3⟩⟩
theorem pair_stored {w : World} {g : Nat} {t : TypeId} (h : Pair w g t) (d : Bool) (p : Option Addr) (n c : Nat) : ((w.setCell ⟨g, 0, none⟩ (.bool d)).setCell ⟨g, 1, none⟩ (.slice p n c)).heap[g]? = some (.cells #[.bool d, .slice p n c] t (0, 0)) := by
  obtain ⟨x, p', n', c', h⟩ := h
  have h1 := heap_setCell_same w g 0 _ _ (.bool d) h
  have h2 := heap_setCell_same _ g 1 _ _ (.slice p n c) h1
  simpa using h2
theorem tlen16 {vs : List Value} (h : vs.length = 16) : ∃ v0 v1 v2 v3 v4 v5 v6 v7 v8 v9 v10 v11 v12 v13 v14 v15, vs = [v0, v1, v2, v3, v4, v5, v6, v7, v8, v9, v10, v11, v12, v13, v14, v15] := by
  obtain ⟨v0, v1, v2, v3, v4, v5, v6, v7, v8, v9, v10, v11, v12, v13, v14, v15, rfl⟩ : ∃ v0 v1 v2 v3 v4 v5 v6 v7 v8 v9 v10 v11 v12 v13 v14 v15, vs = [v0, v1, v2, v3, v4, v5, v6, v7, v8, v9, v10, v11, v12, v13, v14, v15] := by
    match vs, h with
    | [_, _, _, _, _, _, _, _, _, _, _, _, _, _, _, _], _ => exact ⟨_, _, _, _, _, _, _, _, _, _, _, _, _, _, _, _, rfl⟩
  exact ⟨_, _, _, _, _, _, _, _, _, _, _, _, _, _, _, _, rfl⟩
/-- a row of one in a block of its own -/
def rowU (B : Nat) (a b c : Value) : SFact := ⟨fun v w => ∃ g, v = .slice (some ⟨g, 0, none⟩) 1 1 ∧ w.heap[g]? = some (.cells #[a, b, c] 63 (0, 0)) ∧ B ≤ g, fun _ _ _ ⟨g, h1, h2, h3⟩ hb => ⟨g, h1, (hb.block g (Array.getElem?_eq_some_iff.1 h2).1).trans h2, h3⟩⟩
def rowsU (B n : Nat) (xs : List Value) : SFact := ⟨fun v w => w.ownsRow B 63 3 v n xs, fun _ _ _ h hb => ownsRow_later h hb⟩
theorem setRow_same {w : World} {g : Nat} {cur : Array Value} {e : TypeId} (h : w.heap[g]? = some (.cells cur e (0, 0))) (n : Nat) : Below w.heap.size w (w.setRow g (cur.toList.take n ++ [] ++ cur.toList.drop (n + 0)).toArray) :=
  ⟨rfl, rfl, rfl, by simp, fun k hk => by
    by_cases e1 : k = g
    · subst e1
      rw [setRow_heap w k cur _ e _ h, h]
      simp
    · exact setRow_other w g k _ e1⟩
/-- an append to a full row of one's own makes a new row, or nothing -/
theorem step_append_full {P : Program} {w : World} {o : Oper} {a : Act} {K : Act → World → Prop} {Q : Exit → Act → World → Prop} (s x : Operand) (t : TypeId)
    (ho : o.op = .call { callee := .builtin .append, args := #[s, x], argTypes := #[t, t] })
    (base : Nat) (e : TypeId) (i : TypeInfo) (z : Value) (size bytes : Nat) (ht : P.underlying t = some (.slice e)) (hi : P.info? e = some i) (hz : i.zero = some z)
    (hsize : i.size = size) (hby : i.bytes = bytes) (hzs : z.cells.size = size) (hsz : 0 < size)
    (g n : Nat) (xs : List Value) (hs : a.eval s = .slice (some ⟨g, 0, none⟩) n n) (hown : w.ownsRow base e size (.slice (some ⟨g, 0, none⟩) n n) n xs)
    (B2 : Nat) (vx : Value) (m : Nat) (news : List Value) (hx : a.eval x = vx) (hrow : w.ownsRow B2 e size vx m news) (h1 : ∀ u ∈ news, u.oneCell' = true)
    (h63 : n + m ≤ maxLen) (hbytes : (n + m) * bytes ≤ 140737488355328) (hbase : base ≤ w.heap.size)
    (h : ∀ v' w', w'.ownsRow base e size v' (n + m) (xs ++ news) → Below w.heap.size w w' → K (a.put o.dst v') w') : Oper.wp P o a w K Q := by
  rcases id hrow.2 with ⟨rfl, rfl⟩ | ⟨g2, cap2, cur2, rfl, -, hg2, -, -, -, -⟩
  · obtain rfl : news = [] := List.eq_nil_of_length_eq_zero (by simpa using hrow.1)
    exact step_append_none s x t ho base e i size ht hi _ n xs hs hown hx (h _ _ (by simpa using hown) (Below.refl _ _))
  · have hnews := hrow.cells (g := g2) rfl
    subst hsize
    subst hby
    have hsmall : n + m ≤ 9223372036854775807 := by simp only [maxLen] at h63; omega
    have hlen : (xs ++ news).length = (n + m) * i.size := by rw [List.length_append, hown.1, hrow.1, Nat.add_mul]
    obtain ⟨-, hr2⟩ := id hown
    rcases hr2 with ⟨e0, -⟩ | ⟨g', cap, cur, e0, hbg, hg, hnc, hcm, hcs, htake⟩
    · cases e0
    · injection e0 with e1 e2 e3
      injection e1 with e1
      injection e1 with e1
      subst e1 e3
      by_cases hm : m = 0
      · subst hm
        have hn : news = [] := List.eq_nil_of_length_eq_zero (by simpa using hrow.1)
        subst hn
        have hr := run_append_room (P := P) w t o.type e i ht hi g n n cur hg ⟨g2, 0, none⟩ 0 cap2 [] (by simp) (by simp) (by simp) (by omega) (by simp [hcs])
        unfold Oper.wp
        simp [execOp, ho, resolve, invoke, builtin, hs, hx, hr, Result.andThen]
        have hb := setRow_same hg (n * i.size)
        have := h (.slice (some ⟨g, 0, none⟩) n n) _ (by simpa using ownsRow_later hown hb) hb
        have this' : K (a.put o.dst (.slice (some ⟨g, 0, none⟩) n n)) (w.setRow g cur) := by simpa using this
        exact this'
      · have holds : ∀ j u, xs[j]? = some u → w.cell? ((⟨g, 0, none⟩ : Addr).add j) = some u := hown.cells (g := g) rfl
        have hr := run_append_grow (P := P) w t o.type e i z ht hi hz ⟨g, 0, none⟩ n n xs hown.1 holds ⟨g2, 0, none⟩ m cap2 news hrow.1 hnews (by omega) (by omega) (growslice_fits (by omega) hbytes)
        unfold Oper.wp
        simp [execOp, ho, resolve, invoke, builtin, hs, hx, hr, Result.andThen]
        have hge := grownCap_ge w (n + m) n e
        refine h _ _ ⟨hlen, .inr ⟨w.heap.size, _, _, rfl, hbase, heap_alloc_new w.drew _, hge, grownCap_le_maxLen w (n + m) n e h63, ?_, ?_⟩⟩ ⟨rfl, rfl, rfl, by simp, fun k hk => heap_alloc_old w.drew _ hk⟩
        · have he : ((xs ++ news).toArray ++ Builtin.zeroCells z.cells (grownCap w (n + m) n e - (n + m))).size = (xs ++ news).length + (grownCap w (n + m) n e - (n + m)) * i.size := by
            simp [size_zeroCells, hzs]
          rw [he, hlen, ← Nat.add_mul]
          congr 1
          omega
        · simp only [Array.toList_append, List.append_assoc]
          rw [← List.append_assoc, ← hlen]
          exact List.take_left
theorem flatten_set {n : Nat} : ∀ {css : List (List Value)}, (∀ c ∈ css, c.length = n) → ∀ i (hi : i < css.length) j, j < n → ∀ u, css.flatten.set (i * n + j) u = (css.set i (css[i].set j u)).flatten
  | c :: css, hc, 0, _, j, hj, u => by
    have h2 := hc c (by simp)
    simp only [Nat.zero_mul, Nat.zero_add, List.flatten_cons, List.set_cons_zero, List.getElem_cons_zero]
    rw [List.set_append_left _ _ (by omega)]
  | c :: css, hc, i + 1, hi, j, hj, u => by
    have h2 := hc c (by simp)
    have ih := flatten_set (css := css) (fun d hd => hc d (by simp [hd])) i (by simpa using hi) j hj u
    simp only [List.flatten_cons, List.set_cons_succ, List.getElem_cons_succ]
    rw [List.set_append_right _ _ (by rw [h2, Nat.succ_mul]; omega), h2, show (i + 1) * n + j - n = i * n + j by rw [Nat.succ_mul]; omega, ih]
theorem ownsRow_set {w : World} {B g n cap size : Nat} {e : TypeId} {xs : List Value} (h : w.ownsRow B e size (.slice (some ⟨g, 0, none⟩) n cap) n xs) (j : Nat) (u : Value) : (w.setCell ⟨g, j, none⟩ u).ownsRow B e size (.slice (some ⟨g, 0, none⟩) n cap) n (xs.set j u) := by
  obtain ⟨h0, hr⟩ := h
  refine ⟨by simpa using h0, ?_⟩
  rcases hr with ⟨e0, -⟩ | ⟨g', cap', cur, e0, hbg, hg, hnc, hcm, hcs, htake⟩
  · cases e0
  · injection e0 with e1 e2 e3
    injection e1 with e1
    injection e1 with e1
    subst e1 e3
    have hs := heap_setCell_same w g j _ _ u hg
    refine .inr ⟨g, cap, _, rfl, hbg, hs, hnc, hcm, by simpa using hcs, ?_⟩
    rw [← htake]
    simp [List.take_set]
/-! ### rows and tables by their parts -/
def RowTQ (w : World) (c : List Value) (x : List Int × Int) : Prop := ∃ a n s, c = [a, .bool n, s] ∧ RowIs w a n s x
def TabTQ (w : World) (c : List Value) (t : Tb5) : Prop := ∃ a n s, c = [a, .bool n, s] ∧ TabIs w a n s t
theorem OwnLs.rowsIn {B : Nat} {e : TypeId} {w : World} {v : Value} {l : List (List Int × Int)} (h : OwnLs e 3 RowTQ B w v l) : RowsIn w v l := by
  obtain ⟨p, cap, rfl, h1, h2, h3, h4⟩ := h.in
  refine ⟨p, cap, rfl, h1, h2, h3, fun hp => ?_⟩
  obtain ⟨b, off, h5, h6, h7⟩ := h4 hp
  refine ⟨b, off, h5, h6, fun i hi => ?_⟩
  obtain ⟨c, k1, a, n, s, rfl, k2⟩ := h7 i hi
  exact ⟨a, n, s, k1 0 _ rfl, k1 1 _ rfl, k1 2 _ rfl, k2⟩
theorem OwnLs.tabsIn {B : Nat} {e : TypeId} {w : World} {v : Value} {l : List Tb5} (h : OwnLs e 3 TabTQ B w v l) : TabsIn w v l := by
  obtain ⟨p, cap, rfl, h1, h2, h3, h4⟩ := h.in
  refine ⟨p, cap, rfl, h1, h2, h3, fun hp => ?_⟩
  obtain ⟨b, off, h5, h6, h7⟩ := h4 hp
  refine ⟨b, off, h5, h6, fun i hi => ?_⟩
  obtain ⟨c, k1, a, n, s, rfl, k2⟩ := h7 i hi
  exact ⟨a, n, s, k1 0 _ rfl, k1 1 _ rfl, k1 2 _ rfl, k2⟩
theorem RowIoQ.told {B : Nat} {w w' : World} {c : List Value} {x : List Int × Int} (h : RowIoQ B w c x) (hx : RSm x) (hb : Below w.heap.size w w') : RowTQ w' c x := by
  obtain ⟨a, n, s, rfl, k2, k3⟩ := h
  obtain ⟨y, rfl, hr⟩ := k3.raw (Nat.le_trans hx.2 (by decide))
  exact ⟨a, y, s, rfl, (((OwnNums.told k2).in (fun z hz => Nat.le_trans (hx.1 z hz) (by decide)))).below hb, hr.below hb⟩
theorem TabIoQ.told {B : Nat} {w w' : World} {c : List Value} {t : Tb5} (h : TabIoQ B w c t) (hx : TSm t) (hb : Below w.heap.size w w') : TabTQ w' c t := by
  obtain ⟨a, n, s, rfl, k2, k3⟩ := h
  obtain ⟨y, rfl, hr⟩ := k3.raw (Nat.le_trans hx.2 (by decide))
  exact ⟨a, y, s, rfl, (OwnRows.rows k2 hx.1.2).below hb, hr.below hb⟩
/-- the new row, then the old ones -/
theorem rows_new {B : Nat} {w w' : World} {vr : Value} {a s : Value} {d : Bool} {nums : List Int} {res : Int} {rows : List (List Int × Int)} {css : List (List Value)} {B2 : Nat} (hb : Below w.heap.size w w')
    (ho : w'.ownsRow B 63 3 vr (1 + rows.length) ([a, .bool d, s] ++ css.flatten)) (hl : css.length = rows.length) (h3 : ∀ c ∈ css, c.length = 3) (hq : ∀ i (h : i < rows.length) (h' : i < css.length), RowIoQ B2 w css[i] rows[i]) (hsm : ∀ r ∈ rows, RSm r)
    (h1 : NumsIn w a nums) (h2 : RawAt w (.agg #[.bool d, s]) res) : RowsIn w' vr ((nums, res) :: rows) := by
  refine OwnLs.rowsIn (B := B) (e := 63) ⟨[a, .bool d, s] :: css, by simp [hl], ?_, ?_, ?_⟩
  · rw [List.length_cons, Nat.add_comm]; exact ho
  · intro c hc
    rcases List.mem_cons.1 hc with rfl | hc
    · rfl
    · exact h3 c hc
  · intro i hi hi'
    cases i with
    | zero => exact ⟨a, d, s, rfl, h1.below hb, h2.below hb⟩
    | succ i => exact (hq i (by simpa using hi) (by simpa using hi')).told (hsm _ (List.getElem_mem _)) hb
/-- the tables, one of them with other rows -/
theorem tabs_new {B : Nat} {w w1 : World} {g cap : Nat} {ts : List Tb5} {css : List (List Value)} {B2 : Nat} {k : Nat} (hk : k < ts.length) {vr : Value} {rows' : List (List Int × Int)}
    (ho : w1.ownsRow B 46 3 (.slice (some ⟨g, 0, none⟩) ts.length cap) ts.length css.flatten) (hl : css.length = ts.length) (h3 : ∀ c ∈ css, c.length = 3) (hq : ∀ i (h : i < ts.length) (h' : i < css.length), TabIoQ B2 w css[i] ts[i]) (hsm : ∀ t ∈ ts, TSm t)
    (hb : Below w.heap.size w (w1.setCell ⟨g, k * 3, none⟩ vr)) (hr : RowsIn (w1.setCell ⟨g, k * 3, none⟩ vr) vr rows') : TabsIn (w1.setCell ⟨g, k * 3, none⟩ vr) (.slice (some ⟨g, 0, none⟩) ts.length cap) (ts.set k ⟨rows', ts[k].els⟩) := by
  have hkc : k < css.length := by omega
  have hf := flatten_set h3 k hkc 0 (by decide) vr
  have hs := ownsRow_set ho (k * 3) vr
  rw [Nat.add_zero] at hf
  rw [hf] at hs
  have hL : (ts.set k ⟨rows', ts[k].els⟩).length = ts.length := List.length_set
  have := OwnLs.tabsIn (B := B) (e := 46) (w := w1.setCell ⟨g, k * 3, none⟩ vr) (v := .slice (some ⟨g, 0, none⟩) ts.length cap) (l := ts.set k ⟨rows', ts[k].els⟩) ⟨css.set k (css[k].set 0 vr), by simp [hl], by rw [hL]; exact hs, ?_, ?_⟩
  · exact this
  · intro c hc
    rcases List.mem_or_eq_of_mem_set hc with h | rfl
    · exact h3 c h
    · rw [List.length_set]; exact h3 _ (List.getElem_mem _)
  · intro i hi hi'
    have hi2 : i < ts.length := by omega
    have hi3 : i < css.length := by omega
    by_cases e : i = k
    · subst e
      obtain ⟨a, n, s, ec, ha, hn⟩ := (hq i hi2 hi3).told (hsm _ (List.getElem_mem _)) hb
      simp only [List.getElem_set_self]
      rw [ec]
      exact ⟨vr, n, s, rfl, hr, hn⟩
    · rw [List.getElem_set_ne (fun h => e h.symm), List.getElem_set_ne (fun h => e h.symm)]
      exact (hq i hi2 hi3).told (hsm _ (List.getElem_mem _)) hb
theorem OwnLs.one3 {B : Nat} {w : World} {c : List Value} {x : List Int × Int} (h : RowIoQ B w c x) : ∀ u ∈ c, u.oneCell' = true := by
  obtain ⟨a, n, s, rfl, k2, k3⟩ := h
  obtain ⟨p, c, rfl⟩ := k2.shape
  obtain ⟨s', e, hs⟩ := k3
  obtain ⟨p2, n2, c2, e2, -⟩ := hs.shape
  injection e with e3 e
  injection e with e4 _
  subst e3 e4
  intro u hu
  simp at hu
  rcases hu with rfl | rfl | rfl
  · rfl
  · rfl
  · injection e2 with e2
    simp only [Array.mk.injEq, List.cons.injEq, and_true, true_and] at e2
    rw [e2]; rfl
theorem TabIoQ.one3 {B : Nat} {w : World} {c : List Value} {x : Tb5} (h : TabIoQ B w c x) : ∀ u ∈ c, u.oneCell' = true := by
  obtain ⟨a, n, s, rfl, k2, k3⟩ := h
  obtain ⟨p, c, rfl⟩ := k2.shape
  obtain ⟨s', e, hs⟩ := k3
  obtain ⟨p2, n2, c2, e2, -⟩ := hs.shape
  injection e with e3 e
  injection e with e4 _
  subst e3 e4
  intro u hu
  simp at hu
  rcases hu with rfl | rfl | rfl
  · rfl
  · rfl
  · injection e2 with e2
    simp only [Array.mk.injEq, List.cons.injEq, and_true, true_and] at e2
    rw [e2]; rfl
theorem vlTell_small {t : Tb5} (h : TSm t) (so : Int) (l : List Int) : sz Big.W (vlTell so t l).natAbs ≤ 1 := by
  unfold vlTell
  split
  · unfold vlTruth
    split
    · exact NSm.of (by decide) (by decide)
    · exact NSm.of (by decide) (by decide)
  · unfold vlVal
    cases hf : vlFind t.rows l with
    | none => exact h.2
    | some i =>
      obtain ⟨hi, -⟩ := vlVal_some hf
      simp [hi]
      exact (h.1.2 _ (List.getElem_mem hi)).2
/-- the program's values in tables of small numbers, however many rows -/
theorem mk_eval2 {p : Po} {ts : List Tb5} (hp : MkP p) (hsy : p.syms = mkSyms) (hts : ∀ t ∈ ts, (∀ r ∈ t.rows, RSm r) ∧ NSm t.els) (hl : p.syms.length ≤ ts.length) (vs vt vm : Value) (w : World) (htab : Tb w.heap.size w) (hs : SyIn w vs p.syms) (ht : TmsIn w vt p.terms) (hm : TabsIn w vm ts) :
    Calls Tryz.prog 11 #[.agg #[vs, vt], .agg #[vm]] w (RVals (vlEval p.syms ts p.terms []) w) := by
  have ha : VlAsk 8 p.syms p.terms ts := {
    one := by decide
    name := by rw [hsy]; decide
    args := fun t ht => Nat.le_trans (hp.small t ht).1 (by decide)
    num := fun t ht => (hp.small t ht).2
    len := by have := hp.good.2.1; omega
    sized := fun t ht => ⟨Nat.le_trans (hts t ht).2 (by decide), fun r hr => Nat.le_trans ((hts t ht).1 r hr).2 (by decide)⟩
    rows := fun t ht r hr z hz => Nat.le_trans (((hts t ht).1 r hr).1 z hz) (by decide) }
  have hc := mk_check hp hsy
  exact Eval_ok vs vt vm p.syms p.terms ts w htab hs ht hm ha.name ha.args hc hl (Nat.le_trans hp.good.2.1 (by decide)) (fit_at ha.one ha.sized (steps_of_check hc) ha.num hl ha.len)
theorem tabs_small {ts : List Tb5} (hts : ∀ t ∈ ts, TSm t) {k : Nat} (hk : k < ts.length) {nums : List Int} {res : Int} (h1 : ∀ z ∈ nums, NSm z) (h2 : NSm res) : ∀ t ∈ ts.set k ⟨(nums, res) :: ts[k].rows, ts[k].els⟩, (∀ r ∈ t.rows, RSm r) ∧ NSm t.els := by
  intro t ht
  rcases List.mem_or_eq_of_mem_set ht with h | rfl
  · exact ⟨(hts t h).1.2, (hts t h).2⟩
  · have hx := hts _ (List.getElem_mem hk)
    refine ⟨fun r hr => ?_, hx.2⟩
    rcases List.mem_cons.1 hr with rfl | hr
    · exact ⟨h1, h2⟩
    · exact hx.1.2 r hr
theorem wf_i64 {a : Int} (h : (Lit.int .i64 a).wf = true) : -9223372036854775808 ≤ a ∧ a ≤ 9223372036854775807 := by
  have h' : (decide (IntKind.i64.min ≤ a) && decide (a ≤ IntKind.i64.max)) = true := h
  have e1 : IntKind.i64.min = -9223372036854775808 := by decide
  have e2 : IntKind.i64.max = 9223372036854775807 := by decide
  rw [e1, e2] at h'
  simpa using h'
end Go.Proofs.YtckkpolikdnilaaGreatDoor
/- ValueTables answers true. -/
namespace Go.Proofs.YtckkpolikdnilaaGreatDoor
open Go.RowKit Big Go.WideMaps

set_option maxRecDepth 100000 in
set_option maxHeartbeats 25600000 in
theorem lawTables_any (va vb : Value) (bs ds : List Nat) (z g : Int) (w : World) (htab : Tb w.heap.size w) (hb : At w .u8 va bs) (hs : ∀ y ∈ bs, y < 256) (hd : At w .u8 vb ds) (hsd : ∀ y ∈ ds, y < 256) (hz0 : 0 ≤ z) (hz1 : z ≤ 255) (hg0 : -9223372036854775808 ≤ g) (hg1 : g ≤ 9223372036854775807) :
    Calls Tryz.prog 6 #[va, vb, .int .u8 z, .int .i64 g] w (RBool true w) := by
  obtain ⟨i0, hi, hn0, hn1, hn2⟩ := info_parts infoNum
  obtain ⟨iT, hiT, ht0, ht1, ht2⟩ := info_parts infoTable5
  obtain ⟨iR, hiR, hr0, hr1, hr2⟩ := info_parts infoRow5
  have Hb := hid hb; have Hs := hid hs; have Htab := hid htab; have Hd := hid hd; have Hsd := hid hsd
  obtain ⟨pa, ca, rfl, i1, i2, -, -⟩ := hb
  obtain ⟨pb, cb, rfl, j1, j2, -, -⟩ := hd
  unfold maxLen at i2 j2
  have Hfx := hid (fixed5_any w htab)
  clear htab hs hsd
  go_enter Tryz.func6, Tryz.ntmps6
  go_wp2_with fail
  refine Hfx.out.mono ?_
  rintro e w1 ⟨rfl, b1⟩
  have Hb1 := hid b1
  clear b1 Hfx
  cases h300 : decide ((300 : Int) < (bs.length : Int))
  case true =>
    go_wp2
    go_ret
    exact ⟨rfl, Hb1.out⟩
  case false =>
  cases h200 : decide ((200 : Int) < (ds.length : Int))
  case true =>
    go_wp2
    go_ret
    exact ⟨rfl, Hb1.out⟩
  case false =>
  have b2 := below1 w1 (.cells #[.slice pa bs.length ca, .int .i64 0] 54)
  have hc2 := heap_alloc_new w1 (.cells #[.slice pa bs.length ca, .int .i64 0] 54)
  have HT := hid (show TpIn w (w1.alloc (.cells #[.slice pa bs.length ca, .int .i64 0] 54)) w1.heap.size (.slice pa bs.length ca) bs from ⟨Hb.out, Hs.out, Hb1.out.size, bel_go b2 Hb1.out, 0, Nat.zero_le _, hc2⟩)
  have HR := hid (Rows_mk HT.out)
  clear b2 hc2 HT
  go_wp2_with fail
  refine HR.out.mono ?_
  rintro e w3 ⟨vr, p, rfl, hrw, hmk, hsy, hb3, hf3⟩
  obtain ⟨a0, a1, rfl, hs3, ht3⟩ := hrw
  have HMk := hid hmk; have Hsy := hid hsy; have HB3 := hid hb3; have HS3 := hid hs3; have HT3 := hid ht3
  obtain ⟨p1, c1, rfl, -⟩ := hs3
  obtain ⟨p2, c2, rfl, -⟩ := ht3
  have b4 := below1 w3 (.cells #[.slice p1 p.syms.length c1, .slice p2 p.terms.length c2] 25)
  have n4 := heap_alloc_new w3 (.cells #[.slice p1 p.syms.length c1, .slice p2 p.terms.length c2] 25)
  have z4 := size_alloc w3 (.cells #[.slice p1 p.syms.length c1, .slice p2 p.terms.length c2] 25)
  generalize hW4 : w3.alloc (.cells #[.slice p1 p.syms.length c1, .slice p2 p.terms.length c2] 25) = W4 at *
  have b5 := below1 W4 (.cells #[.slice pb ds.length cb, .int .i64 0] 54)
  have n5 := heap_alloc_new W4 (.cells #[.slice pb ds.length cb, .int .i64 0] 54)
  have z5 := size_alloc W4 (.cells #[.slice pb ds.length cb, .int .i64 0] 54)
  generalize hW5 : W4.alloc (.cells #[.slice pb ds.length cb, .int .i64 0] 54) = W5 at *
  have b35 : Below w3.heap.size w3 W5 := bel_go b5 b4
  have hz3 := hb3.size
  have HT5 : TpIn w W5 W4.heap.size (.slice pb ds.length cb) ds := ⟨Hd.out, Hsd.out, by omega, bel_go b35 hb3, 0, Nat.zero_le _, n5⟩
  have N4 := hid ((b5.block w3.heap.size (by omega)).trans n4)
  have HMod := hid (Model_any HT5 (.slice p1 p.syms.length c1) p.syms (fun w' hA => HS3.out.below (b35.trans (hA.below (B := w3.heap.size) b35.size (fun i hi => by
    have hi : i = W4.heap.size := hi
    omega)))) (by rw [Hsy.out]; decide) (by rw [Hsy.out]; decide))
  rw [z4] at HMod
  have B35 := hid b35
  have y4 := two_cells N4.out
  obtain ⟨y0, y1, -, -⟩ := y4
  have y0' := (two_cells n4).1
  clear b4 b5 n4 n5 HT5 b35 hmk hsy hf3 HR
  go_wp2_with fail
  refine HMod.out.mono ?_
  rintro e w6 ⟨vm, ts, rfl, hown, htl, hts, -, hA6⟩
  obtain ⟨pm, cm, rfl⟩ := hown.shape
  have b36 : Below w3.heap.size w3 w6 := B35.out.trans (hA6.below (B := w3.heap.size) B35.out.size (fun i hi => by
    have hi : i = w3.heap.size + 1 := hi
    omega))
  have n6 := (hA6.block w3.heap.size (by omega) (fun hi => by
    have hi : w3.heap.size = w3.heap.size + 1 := hi
    omega)).trans N4.out
  have hz6 := hA6.size
  have b7 := below1 w6 (.cells #[.slice pm ts.length cm] 28)
  have n7 := heap_alloc_new w6 (.cells #[.slice pm ts.length cm] 28)
  have z7 := size_alloc w6 (.cells #[.slice pm ts.length cm] 28)
  generalize hW7 : w6.alloc (.cells #[.slice pm ts.length cm] 28) = W7 at *
  have b37 := bel_go b7 b36
  have HS7 := hid (HS3.out.below b37); have HT7 := hid (HT3.out.below b37); have HM7 := hid ((OwnTabs.tabs hown hts).below b7)
  have HB7 := hid (bel_go b37 HB3.out)
  have N7 := hid n7; have N6 := hid ((b7.block w3.heap.size (by omega)).trans n6)
  have hg67 : w3.heap.size < w6.heap.size := by omega
  have hg7 : w6.heap.size < W7.heap.size := by omega
  have Hts := hid hts
  have HOT := hid (OwnTabs.off hown (OffT.of_below (Ts := []) b7) (by decide) (by decide) (by decide) (by decide))
  have hlt7 : p.syms.length ≤ ts.length := by omega
  have HE := hid (fun w' (hb : Below W7.heap.size W7 w') => mk_eval HMk.out Hsy.out Hts.out hlt7 _ _ _ w' (tab_later Htab.out (bel_go hb HB7.out)) (HS7.out.below hb) (HT7.out.below hb) (HM7.out.below hb))
  have Hlt7 := hid hlt7
  have hsl : p.syms.length = 7 := by rw [Hsy.out]; rfl
  have htl' : ts.length = 7 := by omega
  have Htl := hid htl'
  have x0 := (two_cells N6.out).1
  have m0 := (one_cell N7.out).1
  have Har := hid (show ∀ s ∈ p.syms, 0 ≤ s.arity ∧ s.arity ≤ 4 by rw [Hsy.out]; decide)
  have Hsl := hid hsl
  clear b7 n7 n6 b36 b37 hown hts hA6 HMod hlt7 HS3 HT3 HB3 B35 y0 y1 htl
  clear htl' hsl
  simp only [Htl.out] at x0 m0 HE HM7 HS7 HT7 N6 N7 HOT
  simp only [Hsl.out] at x0 m0 HE HM7 HS7 HT7 N6 N7
  go_upto_region 8 with fail
  obtain ⟨k, hk⟩ : ∃ k : Nat, z % 7 = (k : Nat) := ⟨(z % 7).toNat, by omega⟩
  rw [hk]
  have hk7 : k < 7 := by omega
  clear hk hz0 hz1
  have hks : k < p.syms.length := by rw [Hsl.out]; exact hk7
  have hkt : k < ts.length := by rw [Htl.out]; exact hk7
  have hk7' : (k : Int) < 7 := by omega
  have hsy := HS7.out
  obtain ⟨p1', c1', e, -, -, -, i3⟩ := hsy
  rw [Hsl.out] at e
  injection e with e1 e2 e3
  subst e1 e3
  clear e2
  obtain ⟨bs1, os1, rfl, hbs1, hcs1⟩ := i3 (by omega)
  have hcs := hcs1 k hks
  obtain ⟨y0, y1, y2⟩ := hcs
  have har := Har.out _ (List.getElem_mem hks)
  have HY0 := hid y0; have HY1 := hid y1; have HY2 := hid y2
  have Hso := hid (show (p.syms[k]?.getD ⟨[], 0, 0⟩).sort = p.syms[k].sort by rw [List.getElem?_eq_getElem hks]; rfl)
  generalize p.syms[k].arity = ar at *
  generalize p.syms[k].sort = so at *
  generalize (⟨p.syms[k].name.toArray⟩ : ByteArray) = nm at *
  clear hcs1 i3 y0 y2
  go_wp2_with fail
  clear x0 y1 m0
  go_loopw [12, 51] (fun l i wr => ∃ m : Nat, (m : Int) ≤ ar ∧ i = .int .i64 (m : Nat) ∧ Hid (∃ nums, nums.length = m ∧ OwnNums W7.heap.size wr l nums ∧ ∀ z ∈ nums, z = g) ∧ Hid (Below W7.heap.size W7 wr)) (fun _ i _ => (ar - intOf i).toNat)
  case atStart => exact ⟨0, by omega, rfl, hid ⟨[], rfl, OwnLs.nil .., by simp⟩, hid (Below.refl _ _)⟩
  case round =>
    obtain ⟨m, hm, rfl, hL, hB⟩ := hrel
    obtain ⟨nums, hnl, hnums, hns⟩ := hL.out
    obtain ⟨pl, cl, rfl⟩ := hnums.shape
    rw [hnl] at hnums ⊢
    have Hnums := hid hnums; have Hns := hid hns; have Hnl := hid hnl
    clear hnums hns hnl hL
    have hszr := hB.out.size
    by_cases hlt2 : (m : Int) < ar
    · go_wp2_with fail
      refine (ROf_own g wr hg0 hg1).mono ?_
      rintro e w10 ⟨v10, rfl, i10, b10⟩
      obtain ⟨p10, n10, c10, rfl, i10⟩ := i10.shape
      have b11 := below1 w10 (.cells #[.bool (decide (g < 0)), .slice p10 n10 c10] 44)
      have n11 := heap_alloc_new w10 (.cells #[.bool (decide (g < 0)), .slice p10 n10 c10] 44)
      have hnews : ∀ j u, ([.bool (decide (g < 0)), .slice p10 n10 c10] : List Value)[j]? = some u → (w10.alloc (.cells #[.bool (decide (g < 0)), .slice p10 n10 c10] 44)).cell? ((⟨w10.heap.size, 0, none⟩ : Addr).add j) = some u := by
        intro j u hj
        rw [Go.WideShapes.add_plain, Nat.zero_add, cell_of_row _ _ _ _ _ _ n11]
        simpa using hj
      have b1011 := bel_go b11 b10
      have hO11 := OwnNums.later Hnums.out b1011
      have I11 := hid ((i10.mono (show W7.heap.size ≤ wr.heap.size by omega)).kept b11)
      have HB11 := hid (bel_go b1011 hB.out)
      have hz11 := b1011.size
      have hz10 := b10.size
      clear i10 b10 b11 n11 b1011
      obtain ⟨xs, ho11, hgo⟩ := hO11.row
      rw [Hnl.out] at ho11 hgo
      have Hgo := hid hgo
      have Ho11 := hid ho11
      clear hgo hO11
      go_wp2_with (at_builtin; refine wpList_append_own _ rfl _ _ 32 rfl W7.heap.size 44 i0 _ 2 32 Tryz.underlying32 hi hn0 hn1 hn2 rfl (by decide) _ m _ rfl ho11 ⟨w10.heap.size, 0, none⟩ 1 1 [.bool (decide (g < 0)), .slice p10 n10 c10] rfl rfl hnews (by intro u hu; simp at hu; rcases hu with rfl | rfl <;> rfl) (by simp [maxLen]; omega) (by omega) (by omega) ?_; intro v12 w12 ho12 hg12 _)
      have hoff := OffT.of_grown Ho11.out hg12
      have hnew := Hgo.out w12 v12 [.bool (decide (g < 0)), .slice p10 n10 c10] g ho12 rfl (fun c x hx => hx.off hoff (by decide)) ⟨_, rfl, hoff.own I11.out (by decide)⟩
      have HBF := hid (HB11.out.grown hg12 (by omega) (fun g hg => (World.ownsRow.lt Ho11.out g hg).1))
      have Hrel := hid (show ∃ nums', nums'.length = m + 1 ∧ OwnNums W7.heap.size w12 v12 nums' ∧ ∀ z ∈ nums', z = g from ⟨nums ++ [g], by simp [Hnl.out], hnew, fun z hz => by
        rcases List.mem_append.1 hz with h1 | h1
        · exact Hns.out z h1
        · exact List.mem_singleton.1 h1⟩)
      clear hnew hoff
      go_roundw
      case rel => exact ⟨m + 1, by omega, by go_num, Hrel, HBF⟩
      case measure => simp [intOf] <;> omega
    · have hm4 : m ≤ 4 := by omega
      have hgz : NumSm g := NumSm.of hg0 hg1
      have Hgz := hid hgz
      have Hsz := hid (show ∀ z ∈ nums, sz W z.natAbs ≤ 1 from fun z hz => by rw [Hns.out z hz]; exact hgz)
      clear hm hgz hg0 hg1 har Hns
      have N6r := hid ((hB.out.block w3.heap.size (by omega)).trans N6.out)
      have N7r := hid ((hB.out.block w6.heap.size (by omega)).trans N7.out)
      have x := two_cells N6r.out
      obtain ⟨x0, x1, -, -⟩ := x
      have m0 := (one_cell N7r.out).1
      go_wp2_with fail
      clear x0 x1 m0 hlt2
      refine (HE.out wr hB.out).mono ?_
      rintro e w8 ⟨va, rfl, -, hva, b8⟩
      have HVa := hid hva
      have HB8 := hid (bel_go b8 hB.out)
      have Hnums8 := hid (OwnNums.later Hnums.out b8)
      have hz8 := b8.size
      clear hva b8 hB Hnums
      obtain ⟨pa, ca, rfl, -⟩ := id HVa.out
      have hM7 := HM7.out
      obtain ⟨pt, ct, e, -, -, -, i3⟩ := hM7
      rw [Htl.out] at e
      injection e with e1 e2 e3
      subst e1 e3
      clear e2
      obtain ⟨bt, ot, rfl, hbt, hct⟩ := i3 (by omega)
      obtain ⟨ta, tn, tsl, y3, y4, y5, htab⟩ := hct k hkt
      have hsh := htab.2.shape
      obtain ⟨qt, dt, gt, rfl⟩ := hsh
      obtain ⟨⟨pr, cr, rfl, -⟩, -⟩ := id htab
      have HTl := hid (fun w' (hb : Below w8.heap.size w8 w') => Tell_any (.string nm) ⟨_, rfl⟩ ar so _ _ _ _ ts[k] nums w' (htab.below (bel_go hb HB8.out)) ((OwnNums.told (OwnNums.later Hnums8.out hb)).in (fun z hz => Nat.le_trans (Hsz.out z hz) (by decide))))
      have HS8 : Hid (∀ w', Below w8.heap.size w8 w' → w'.cell? ⟨w3.heap.size, 0, none⟩ = some (.slice (some ⟨bs1, os1, none⟩) 7 c1) ∧ w'.cell? ⟨w6.heap.size, 0, none⟩ = some (.slice (some ⟨bt, ot, none⟩) 7 cm) ∧ w'.cell? ⟨bs1, os1 + k * 3, none⟩ = some (.string nm) ∧ w'.cell? ⟨bs1, os1 + k * 3 + 1, none⟩ = some (.int .i64 ar) ∧ w'.cell? ⟨bs1, os1 + k * 3 + 2, none⟩ = some (.int .i64 so) ∧
        w'.cell? ⟨bt, ot + k * 3, none⟩ = some (.slice pr ts[k].rows.length cr) ∧ w'.cell? ⟨bt, ot + k * 3 + 1, none⟩ = some (.bool tn) ∧ w'.cell? ⟨bt, ot + k * 3 + 2, none⟩ = some (.slice qt dt gt)) := hid fun w' hb => by
        have h7 := bel_go hb HB8.out
        exact ⟨(two_cells ((h7.block w3.heap.size (by omega)).trans N6.out)).1, (one_cell ((h7.block w6.heap.size (by omega)).trans N7.out)).1, (h7.cell (p := ⟨bs1, os1 + k * 3, none⟩) hbs1).trans HY0.out, (h7.cell (p := ⟨bs1, os1 + k * 3 + 1, none⟩) hbs1).trans HY1.out, (h7.cell (p := ⟨bs1, os1 + k * 3 + 2, none⟩) hbs1).trans HY2.out,
          (h7.cell (p := ⟨bt, ot + k * 3, none⟩) hbt).trans y3, (h7.cell (p := ⟨bt, ot + k * 3 + 1, none⟩) hbt).trans y4, (h7.cell (p := ⟨bt, ot + k * 3 + 2, none⟩) hbt).trans y5⟩
      obtain ⟨res, hres⟩ : ∃ res, res = vlTell so ts[k] nums := ⟨_, rfl⟩
      have Hres := hid hres
      rw [← hres] at HTl
      have htab' := hid htab
      clear hct i3 y3 y4 y5 htab hres
      go_upto_region 14 with fail
      refine wp_region_facts (w0 := w8) 13 1 [65, 66, 67, 68, 69, 70, 71, 72, 73, 74, 75, 76, 15] [undef, undef, undef, undef, undef, undef, undef, undef, undef, undef, undef, undef, undef]
        (fun i => match i with | 0 => eqU (.pointer (some ⟨w3.heap.size, 0, none⟩)) | 1 => eqU (.slice (some ⟨bs1, os1, none⟩) 7 c1) | 2 => eqU (.int .i64 (k : Nat)) | 3 => eqU (.pointer (some ⟨bs1, os1 + k * 3, none⟩)) | 4 => eqU (.agg #[.string nm, .int .i64 ar, .int .i64 so]) | 5 => eqU (.pointer (some ⟨w6.heap.size, 0, none⟩)) | 6 => eqU (.slice (some ⟨bt, ot, none⟩) 7 cm) | 7 => eqU (.int .i64 (k : Nat)) | 8 => eqU (.pointer (some ⟨bt, ot + k * 3, none⟩)) | 9 => eqU (.agg #[.slice pr ts[k].rows.length cr, .bool tn, .slice qt dt gt]) | 10 => eqU (.slice pl m cl) | 11 => resU res | _ => boxU w8.heap.size) [12] (by kernel_rfl) (by kernel_rfl) (by kernel_rfl) (by kernel_rfl) (by decide) rfl (by kernel_rfl) rfl (by simp) ?he1 ?_ ?_ ?_
      case he1 => simp only [putAll, Act.put, List.setIfInBounds_toArray, List.set_cons_zero, List.set_cons_succ]
      · intro i hi v w' h
        simp only [List.mem_cons, List.not_mem_nil, or_false] at hi
        rcases hi with rfl
        · obtain ⟨g, hg, hp, -⟩ := (show (boxU w8.heap.size).P v w' from h); exact ⟨g, hg, hp.lt⟩
      · intro i o hi ho vs wx hvl hb hdep K hK
        have hvs := vlen13 hvl
        obtain ⟨s65, s66, s67, s68, s69, s70, s71, s72, s73, s74, s75, s76, s15, rfl⟩ := hvs
        clear hvl
        have hk := HS8.out wx hb
        go_split_ands
        rcases i with _ | _ | _ | _ | _ | _ | _ | _ | _ | _ | _ | _ | _ | i
        all_goals (simp only [List.getElem?_toArray, List.getElem?_cons_zero, List.getElem?_cons_succ, Option.some.injEq] at ho)
        all_goals try (subst ho)
        all_goals try simp only [putAll, Act.put, List.setIfInBounds_toArray, List.set_cons_zero, List.set_cons_succ]
        · go_simp
          have hK' := hK.out
          simp only [putAll, Act.put, List.setIfInBounds_toArray, List.set_cons_zero, List.set_cons_succ] at hK'
          exact hK' _ _ rfl (Below.refl _ _) (by simp)
        · have e0 : s65 = _ := hdep ⟨0, .data⟩ (by simp) rfl
          have e0 := e0.symm
          subst e0
          go_simp
          have hK' := hK.out
          simp only [putAll, Act.put, List.setIfInBounds_toArray, List.set_cons_zero, List.set_cons_succ] at hK'
          exact hK' _ _ rfl (Below.refl _ _) (by simp)
        · go_simp
          have hK' := hK.out
          simp only [putAll, Act.put, List.setIfInBounds_toArray, List.set_cons_zero, List.set_cons_succ] at hK'
          exact hK' _ _ rfl (Below.refl _ _) (by simp)
        · have e1 : s66 = _ := hdep ⟨1, .data⟩ (by simp) rfl
          have e1 := e1.symm
          subst e1
          have e2 : s67 = _ := hdep ⟨2, .data⟩ (by simp) rfl
          have e2 := e2.symm
          subst e2
          go_simp
          have hK' := hK.out
          simp only [putAll, Act.put, List.setIfInBounds_toArray, List.set_cons_zero, List.set_cons_succ] at hK'
          exact hK' _ _ rfl (Below.refl _ _) (by simp)
        · have e3 : s68 = _ := hdep ⟨3, .data⟩ (by simp) rfl
          have e3 := e3.symm
          subst e3
          go_simp
          have hK' := hK.out
          simp only [putAll, Act.put, List.setIfInBounds_toArray, List.set_cons_zero, List.set_cons_succ] at hK'
          exact hK' _ _ rfl (Below.refl _ _) (by simp)
        · go_simp
          have hK' := hK.out
          simp only [putAll, Act.put, List.setIfInBounds_toArray, List.set_cons_zero, List.set_cons_succ] at hK'
          exact hK' _ _ rfl (Below.refl _ _) (by simp)
        · have e5 : s70 = _ := hdep ⟨5, .data⟩ (by simp) rfl
          have e5 := e5.symm
          subst e5
          go_simp
          have hK' := hK.out
          simp only [putAll, Act.put, List.setIfInBounds_toArray, List.set_cons_zero, List.set_cons_succ] at hK'
          exact hK' _ _ rfl (Below.refl _ _) (by simp)
        · go_simp
          have hK' := hK.out
          simp only [putAll, Act.put, List.setIfInBounds_toArray, List.set_cons_zero, List.set_cons_succ] at hK'
          exact hK' _ _ rfl (Below.refl _ _) (by simp)
        · have e6 : s71 = _ := hdep ⟨6, .data⟩ (by simp) rfl
          have e6 := e6.symm
          subst e6
          have e7 : s72 = _ := hdep ⟨7, .data⟩ (by simp) rfl
          have e7 := e7.symm
          subst e7
          go_simp
          have hK' := hK.out
          simp only [putAll, Act.put, List.setIfInBounds_toArray, List.set_cons_zero, List.set_cons_succ] at hK'
          exact hK' _ _ rfl (Below.refl _ _) (by simp)
        · have e8 : s73 = _ := hdep ⟨8, .data⟩ (by simp) rfl
          have e8 := e8.symm
          subst e8
          go_simp
          have hK' := hK.out
          simp only [putAll, Act.put, List.setIfInBounds_toArray, List.set_cons_zero, List.set_cons_succ] at hK'
          exact hK' _ _ rfl (Below.refl _ _) (by simp)
        · go_simp
          have hK' := hK.out
          simp only [putAll, Act.put, List.setIfInBounds_toArray, List.set_cons_zero, List.set_cons_succ] at hK'
          exact hK' _ _ rfl (Below.refl _ _) (by simp)
        · have e4 : s69 = _ := hdep ⟨4, .data⟩ (by simp) rfl
          have e4 := e4.symm
          subst e4
          have e9 : s74 = _ := hdep ⟨9, .data⟩ (by simp) rfl
          have e9 := e9.symm
          subst e9
          have e10 : s75 = _ := hdep ⟨10, .data⟩ (by simp) rfl
          have e10 := e10.symm
          subst e10
          go_simp
          refine (HTl.out wx hb).mono ?_
          rintro e wy ⟨vy, rfl, iy, hby⟩
          have hsh := iy.shape
          obtain ⟨p5, n5, c5, rfl, iy⟩ := hsh
          go_wp2_with fail
          have hK' := hK.out
          simp only [putAll, Act.put, List.setIfInBounds_toArray, List.set_cons_zero, List.set_cons_succ] at hK'
          exact hK' _ _ ⟨_, _, _, _, rfl, iy⟩ hby (by simp)
        · go_simp
          have hK' := hK.out
          simp only [putAll, Act.put, List.setIfInBounds_toArray, List.set_cons_zero, List.set_cons_succ] at hK'
          exact hK' _ _ ⟨_, rfl, Pair.new .., hb.size⟩ (below1 _ _) (fun _ => rfl)
        · omega
      · intro vs wx hvl hb hf hdist
        have hvs := vlen13 hvl
        obtain ⟨s65, s66, s67, s68, s69, s70, s71, s72, s73, s74, s75, s76, s15, rfl⟩ := hvs
        have f11 : (resU res).P s76 wx := hf 11 (by decide)
        obtain ⟨dv, pv, nv, cv, rfl, iv⟩ := f11
        have f12 : (boxU w8.heap.size).P s15 wx := hf 12 (by decide)
        obtain ⟨gv, rfl, hp, hgv⟩ := f12
        clear hf hdist hvl
        have hpc := hp.cells
        obtain ⟨q0, q1, q2, q3, q4, q5⟩ := hpc
        refine wpAny_one (i := 13) (by kernel_rfl) rfl ?_
        intro K hK
        try simp only [putAll, Act.put, List.setIfInBounds_toArray, List.set_cons_zero, List.set_cons_succ]
        go_simp
        have hK' := hK.out
        apply hK'
        clear hK hK' q0 q1 q2 q3 q4 q5
        refine wpAny_done (by kernel_rfl) ?_ _
        try simp only [putAll, Act.put, List.setIfInBounds_toArray, List.set_cons_zero, List.set_cons_succ]
        have HIv := hid (iv.stored hp dv pv nv cv)
        have HNv := hid (pair_stored hp dv pv nv cv)
        have HB9 := hid (bel_go (Below.stored hb (by omega) (.bool dv) (.slice pv nv cv)) HB8.out)
        have HB89 := hid (Below.stored hb hgv (.bool dv) (.slice pv nv cv))
        generalize hw9 : (wx.setCell ⟨gv, 0, none⟩ (.bool dv)).setCell ⟨gv, 1, none⟩ (.slice pv nv cv) = w9 at *
        have HNums9 := hid (OwnNums.later Hnums8.out HB89.out)
        have HVa9 := hid (HVa.out.below HB89.out)
        have hgv9 := (Array.getElem?_eq_some_iff.1 HNv.out).1
        have hz9 := HB9.out.size
        clear hw9 hb iv hp HTl HS8 HVa Hnums8 HB8 hgv HB89
        obtain ⟨css, cs1, cs2, cs3, cs4⟩ := HOT.out
        have hot0 : ot = 0 := by
          rcases cs2.2 with ⟨e, -⟩ | ⟨g', cap', cur', e, -⟩
          · cases e
          · injection e with e
            injection e with e
            injection e
        have b10 := below1 w9 (.cells #[] 46)
        have n10 := heap_alloc_new w9 (.cells #[] 46)
        have z10 := size_alloc w9 (.cells #[] 46)
        generalize hW10 : w9.alloc (.cells #[] 46) = W10 at *
        have HB10 := hid (bel_go b10 HB9.out)
        have N7r := hid ((HB10.out.block w6.heap.size (by omega)).trans N7.out)
        have m0 := (one_cell N7r.out).1
        have hnews : ∀ j u, css.flatten[j]? = some u → W10.cell? ((⟨bt, ot, none⟩ : Addr).add j) = some u := by
          intro j u hj
          have := cs2.cells (g := bt) rfl j u hj
          rw [hot0]
          rw [Go.WideShapes.add_plain] at this ⊢
          exact (HB10.out.cell (p := ⟨bt, 0 + j, none⟩) hbt).trans this
        have hone : ∀ u ∈ css.flatten, u.oneCell' = true := by
          intro u hu
          obtain ⟨c, hc, huc⟩ := List.mem_flatten.1 hu
          obtain ⟨i, hi, rfl⟩ := List.getElem_of_mem hc
          exact (cs4 i (by omega) hi).one3 u huc
        have hcl : css.flatten.length = 7 * 3 := by have := cs2.1; rw [Htl.out] at this; exact this
        have ho10 : W10.ownsRow w9.heap.size 46 3 (.slice (some ⟨w9.heap.size, 0, none⟩) 0 0) 0 [] := ⟨rfl, .inr ⟨w9.heap.size, 0, #[], rfl, Nat.le_refl _, n10, by decide, by simp [maxLen], by simp, by rfl⟩⟩
        have Cs1 := hid cs1; have Cs3 := hid cs3; have Cs4 := hid cs4
        have B910 := hid b10
        clear cs1 cs2 cs3 cs4 n10 hot0 b10
        go_upto_region 16 with (at_builtin; refine wpList_append_own _ rfl _ _ 26 rfl w9.heap.size 46 iT _ 3 56 Tryz.underlying26 hiT ht0 ht1 ht2 rfl (by decide) _ 0 [] rfl ho10 ⟨bt, ot, none⟩ 7 cm css.flatten rfl hcl hnews hone (by simp [maxLen]) (by omega) (by omega) ?_; intro v11 w11 ho11 hg11 _; have ho11 : w11.ownsRow w9.heap.size 46 3 v11 7 css.flatten := ho11; obtain ⟨gN, c11, rfl, -, hgN⟩ := row_form ho11 (by decide))
        have B911 := hid (B910.out.grown hg11 (by omega) (fun g hg => (World.ownsRow.lt ho10 g hg).1))
        have hgN9 := (World.ownsRow.lt ho11 gN rfl).1
        obtain ⟨ar2, n2, s2, ec, hrows, -⟩ := Cs4.out k hkt (by have := Cs1.out; omega)
        obtain ⟨pr2, cr2, rfl⟩ := hrows.shape
        obtain ⟨css2, r1, r2, r3, r4⟩ := hrows
        have hk0 : css.flatten[k * 3]? = some (.slice pr2 ts[k].rows.length cr2) := by
          have := flatten_at Cs3.out k (by have := Cs1.out; omega) 0 _ (by rw [ec]; rfl)
          simpa using this
        have hcN := ho11.cells (g := gN) rfl _ _ hk0
        rw [Go.WideShapes.add_plain, Nat.zero_add] at hcN
        have hlr := (Hts.out _ (List.getElem_mem hkt)).1.1
        have hone2 : ∀ u ∈ css2.flatten, u.oneCell' = true := by
          intro u hu
          obtain ⟨c, hc, huc⟩ := List.mem_flatten.1 hu
          obtain ⟨i, hi, rfl⟩ := List.getElem_of_mem hc
          exact OwnLs.one3 (r4 i (by omega) hi) u huc
        have b12 := below1 w11 (.cells #[.slice (some ⟨gN, 0, none⟩) 7 c11] 28)
        have n12 := heap_alloc_new w11 (.cells #[.slice (some ⟨gN, 0, none⟩) 7 c11] 28)
        have z12 := size_alloc w11 (.cells #[.slice (some ⟨gN, 0, none⟩) 7 c11] 28)
        generalize hW12 : w11.alloc (.cells #[.slice (some ⟨gN, 0, none⟩) 7 c11] 28) = W12 at *
        have B912 := hid (bel_go b12 B911.out)
        have Ho12 := hid (ownsRow_later ho11 b12)
        have N12 := hid n12
        have hcN12 := hid ((b12.cell (p := ⟨gN, k * 3, none⟩) hgN).trans hcN)
        have R1 := hid r1; have R2 := hid r2; have R3 := hid r3; have R4 := hid r4; have Hone2 := hid hone2
        have hz11 := B911.out.size
        have HS12 : Hid (∀ w', Below W12.heap.size W12 w' → w'.cell? ⟨w11.heap.size, 0, none⟩ = some (.slice (some ⟨gN, 0, none⟩) 7 c11) ∧ w'.cell? ⟨gv, 0, none⟩ = some (.bool dv) ∧ w'.cell? ⟨gv, 1, none⟩ = some (.slice pv nv cv) ∧ w'.cell? ⟨gN, k * 3, none⟩ = some (.slice pr2 ts[k].rows.length cr2)) := hid fun w' hb => by
          have h9 := bel_go hb B912.out
          have q := two_cells ((h9.block gv hgv9).trans HNv.out)
          exact ⟨(one_cell ((hb.block w11.heap.size (by omega)).trans N12.out)).1, q.1, q.2.1, (hb.cell (p := ⟨gN, k * 3, none⟩) (by show gN < W12.heap.size; omega)).trans hcN12.out⟩
        clear r1 r2 r3 r4 hone2 b12 n12 hcN hk0 ho11 hg11 hone hnews hcl ho10 m0 ec hW12 hW10
        refine wp_region_facts (w0 := W12) 16 1 [82, 83, 84, 85, 86, 87, 88, 89, 90, 91, 92, 93, 94, 95, 96, 97] [undef, undef, undef, undef, undef, undef, undef, undef, undef, undef, undef, undef, undef, undef, undef, undef]
          (fun i => match i with | 0 => eqU (.pointer (some ⟨w11.heap.size, 0, none⟩)) | 1 => eqU (.slice (some ⟨gN, 0, none⟩) 7 c11) | 2 => eqU (.int .i64 (k : Nat)) | 3 => eqU (.slice pl m cl) | 4 => eqU (.agg #[.bool dv, .slice pv nv cv]) | 5 => eqU (.agg #[.slice pl m cl, .bool dv, .slice pv nv cv]) | 6 => rowU W12.heap.size (.slice pl m cl) (.bool dv) (.slice pv nv cv) | 7 => eqU (.pointer (some ⟨w11.heap.size, 0, none⟩)) | 8 => eqU (.slice (some ⟨gN, 0, none⟩) 7 c11) | 9 => eqU (.int .i64 (k : Nat)) | 10 => eqU (.pointer (some ⟨gN, k * 3, none⟩)) | 11 => eqU (.pointer (some ⟨gN, k * 3, none⟩)) | 12 => eqU (.slice pr2 ts[k].rows.length cr2) | 13 => rowsU W12.heap.size (1 + ts[k].rows.length) ([.slice pl m cl, .bool dv, .slice pv nv cv] ++ css2.flatten) | 14 => eqU (.pointer (some ⟨gN, k * 3, none⟩)) | _ => eqU (.pointer (some ⟨gN, k * 3, none⟩))) [] (by kernel_rfl) (by kernel_rfl) (by kernel_rfl) (by kernel_rfl) (by decide) rfl (by kernel_rfl) rfl (by simp) ?he2 ?_ ?_ ?_
        case he2 => simp only [putAll, Act.put, List.setIfInBounds_toArray, List.set_cons_zero, List.set_cons_succ]
        · intro i hi; simp at hi
        · intro i o hi ho vs wx hvl hb hdep K hK
          have hvs := tlen16 hvl
          obtain ⟨s82, s83, s84, s85, s86, s87, s88, s89, s90, s91, s92, s93, s94, s95, s96, s97, rfl⟩ := hvs
          clear hvl
          have hk := HS12.out wx hb
          go_split_ands
          rcases i with _ | _ | _ | _ | _ | _ | _ | _ | _ | _ | _ | _ | _ | _ | _ | _ | i
          all_goals (simp only [List.getElem?_toArray, List.getElem?_cons_zero, List.getElem?_cons_succ, Option.some.injEq] at ho)
          all_goals try (subst ho)
          all_goals try simp only [putAll, Act.put, List.setIfInBounds_toArray, List.set_cons_zero, List.set_cons_succ]
          · go_simp
            have hK' := hK.out
            simp only [putAll, Act.put, List.setIfInBounds_toArray, List.set_cons_zero, List.set_cons_succ] at hK'
            exact hK' _ _ rfl (Below.refl _ _) (by simp)
          · have e0 : s82 = _ := hdep ⟨0, .data⟩ (by simp) rfl
            have e0 := e0.symm
            subst e0
            go_simp
            have hK' := hK.out
            simp only [putAll, Act.put, List.setIfInBounds_toArray, List.set_cons_zero, List.set_cons_succ] at hK'
            exact hK' _ _ rfl (Below.refl _ _) (by simp)
          · go_simp
            have hK' := hK.out
            simp only [putAll, Act.put, List.setIfInBounds_toArray, List.set_cons_zero, List.set_cons_succ] at hK'
            exact hK' _ _ rfl (Below.refl _ _) (by simp)
          · go_simp
            have hK' := hK.out
            simp only [putAll, Act.put, List.setIfInBounds_toArray, List.set_cons_zero, List.set_cons_succ] at hK'
            exact hK' _ _ rfl (Below.refl _ _) (by simp)
          · go_simp
            have hK' := hK.out
            simp only [putAll, Act.put, List.setIfInBounds_toArray, List.set_cons_zero, List.set_cons_succ] at hK'
            exact hK' _ _ rfl (Below.refl _ _) (by simp)
          · have e3 : s85 = _ := hdep ⟨3, .data⟩ (by simp) rfl
            have e3 := e3.symm
            subst e3
            have e4 : s86 = _ := hdep ⟨4, .data⟩ (by simp) rfl
            have e4 := e4.symm
            subst e4
            go_simp
            have hK' := hK.out
            simp only [putAll, Act.put, List.setIfInBounds_toArray, List.set_cons_zero, List.set_cons_succ] at hK'
            exact hK' _ _ rfl (Below.refl _ _) (by simp)
          · have e5 : s87 = _ := hdep ⟨5, .data⟩ (by simp) rfl
            have e5 := e5.symm
            subst e5
            go_simp
            have hK' := hK.out
            simp only [putAll, Act.put, List.setIfInBounds_toArray, List.set_cons_zero, List.set_cons_succ] at hK'
            exact hK' _ _ ⟨wx.heap.size, rfl, heap_alloc_new wx _, hb.size⟩ (below1 _ _) (by simp)
          · go_simp
            have hK' := hK.out
            simp only [putAll, Act.put, List.setIfInBounds_toArray, List.set_cons_zero, List.set_cons_succ] at hK'
            exact hK' _ _ rfl (Below.refl _ _) (by simp)
          · have e7 : s89 = _ := hdep ⟨7, .data⟩ (by simp) rfl
            have e7 := e7.symm
            subst e7
            go_simp
            have hK' := hK.out
            simp only [putAll, Act.put, List.setIfInBounds_toArray, List.set_cons_zero, List.set_cons_succ] at hK'
            exact hK' _ _ rfl (Below.refl _ _) (by simp)
          · go_simp
            have hK' := hK.out
            simp only [putAll, Act.put, List.setIfInBounds_toArray, List.set_cons_zero, List.set_cons_succ] at hK'
            exact hK' _ _ rfl (Below.refl _ _) (by simp)
          · have e8 : s90 = _ := hdep ⟨8, .data⟩ (by simp) rfl
            have e8 := e8.symm
            subst e8
            have e9 : s91 = _ := hdep ⟨9, .data⟩ (by simp) rfl
            have e9 := e9.symm
            subst e9
            go_simp
            have hK' := hK.out
            simp only [putAll, Act.put, List.setIfInBounds_toArray, List.set_cons_zero, List.set_cons_succ] at hK'
            exact hK' _ _ rfl (Below.refl _ _) (by simp)
          · have e10 : s92 = _ := hdep ⟨10, .data⟩ (by simp) rfl
            have e10 := e10.symm
            subst e10
            go_simp
            have hK' := hK.out
            simp only [putAll, Act.put, List.setIfInBounds_toArray, List.set_cons_zero, List.set_cons_succ] at hK'
            exact hK' _ _ rfl (Below.refl _ _) (by simp)
          · have e11 : s93 = _ := hdep ⟨11, .data⟩ (by simp) rfl
            have e11 := e11.symm
            subst e11
            go_simp
            have hK' := hK.out
            simp only [putAll, Act.put, List.setIfInBounds_toArray, List.set_cons_zero, List.set_cons_succ] at hK'
            exact hK' _ _ rfl (Below.refl _ _) (by simp)
          · have e6 : (rowU W12.heap.size (.slice pl m cl) (.bool dv) (.slice pv nv cv)).P s88 wx := hdep ⟨6, .data⟩ (by simp) rfl
            have e12 : s94 = _ := hdep ⟨12, .data⟩ (by simp) rfl
            have e12 := e12.symm
            subst e12
            obtain ⟨gg, e6', hgg, hgB⟩ := e6
            have e6' := e6'.symm
            subst e6'
            rw [if_pos (by rfl)]
            refine step_append_full (.tmp 88) (.tmp 94) 40 ?ho W12.heap.size 63 iR _ 3 56 Tryz.underlying40 hiR hr0 hr1 hr2 rfl (by decide) gg 1 [.slice pl m cl, .bool dv, .slice pv nv cv] ?hs ⟨rfl, .inr ⟨gg, 1, _, rfl, hgB, hgg, Nat.le_refl _, by simp [maxLen], rfl, rfl⟩⟩ _ _ _ css2.flatten ?hx (ownsRow_later R2.out (bel_go (bel_go hb B912.out) HB9.out)) Hone2.out ?c1 ?c2 hb.size ?_
            case ho => rfl
            case hs => rfl
            case hx => rfl
            case c1 => simp [maxLen]; omega
            case c2 => omega
            intro v' w13 ho13 hb13
            have hK' := hK.out
            simp only [putAll, Act.put, List.setIfInBounds_toArray, List.set_cons_zero, List.set_cons_succ] at hK'
            exact hK' _ _ ho13 hb13 (by simp)
          · have e1 : s83 = _ := hdep ⟨1, .data⟩ (by simp) rfl
            have e1 := e1.symm
            subst e1
            have e2 : s84 = _ := hdep ⟨2, .data⟩ (by simp) rfl
            have e2 := e2.symm
            subst e2
            go_simp
            have hK' := hK.out
            simp only [putAll, Act.put, List.setIfInBounds_toArray, List.set_cons_zero, List.set_cons_succ] at hK'
            exact hK' _ _ rfl (Below.refl _ _) (by simp)
          · have e14 : s96 = _ := hdep ⟨14, .data⟩ (by simp) rfl
            have e14 := e14.symm
            subst e14
            go_simp
            have hK' := hK.out
            simp only [putAll, Act.put, List.setIfInBounds_toArray, List.set_cons_zero, List.set_cons_succ] at hK'
            exact hK' _ _ rfl (Below.refl _ _) (by simp)
          · omega
        · intro vs wx hvl hb hf hdist
          have hvs := tlen16 hvl
          obtain ⟨s82, s83, s84, s85, s86, s87, s88, s89, s90, s91, s92, s93, s94, s95, s96, s97, rfl⟩ := hvs
          have f15 : s97 = _ := hf 15 (by decide)
          have f15 := f15.symm
          subst f15
          have f13 : wx.ownsRow _ _ 3 s95 _ _ := hf 13 (by decide)
          obtain ⟨p13, c13, rfl⟩ := ownsRow_shape f13
          clear hf hdist hvl
          have hb9 := bel_go hb B912.out
          have hox := ownsRow_later Ho12.out hb
          obtain ⟨curN, hcurN⟩ : ∃ cur, wx.heap[gN]? = some (.cells cur 46 (0, 0)) := by
            rcases hox.2 with ⟨e, -⟩ | ⟨g', cap', cur', e, -, hg', -⟩
            · cases e
            · injection e with e
              injection e with e
              injection e with e
              subst e
              exact ⟨_, hg'⟩
          have fz := frozen_all hcurN (k * 3)
          have qk := (hb.cell (p := ⟨gN, k * 3, none⟩) (by show gN < W12.heap.size; omega)).trans hcN12.out
          refine wpAny_one (i := 16) (by kernel_rfl) rfl ?_
          intro K hK
          try simp only [putAll, Act.put, List.setIfInBounds_toArray, List.set_cons_zero, List.set_cons_succ]
          go_simp
          have hK' := hK.out
          apply hK'
          clear hK hK' fz qk
          refine wpAny_done (by kernel_rfl) ?_ _
          try simp only [putAll, Act.put, List.setIfInBounds_toArray, List.set_cons_zero, List.set_cons_succ]
          have hbF : Below w9.heap.size w9 (wx.setCell ⟨gN, k * 3, none⟩ (.slice p13 (1 + ts[k].rows.length) c13)) := hb9.setCell (p := ⟨gN, k * 3, none⟩) hgN9 _
          have hresS : NSm res := by rw [Hres.out]; exact vlTell_small (Hts.out _ (List.getElem_mem hkt)) so nums
          have hoff : OffT [46] wx (wx.setCell ⟨gN, k * 3, none⟩ (.slice p13 (1 + ts[k].rows.length) c13)) := OffT.set hcurN (k * 3) _
          have hb79 := HB9.out
          have hrows : RowsIn (wx.setCell ⟨gN, k * 3, none⟩ (.slice p13 (1 + ts[k].rows.length) c13)) (.slice p13 (1 + ts[k].rows.length) c13) ((nums, res) :: ts[k].rows) :=
            rows_new (w := w9) hbF (hoff.row f13 (by decide)) R1.out R3.out (fun i hi hi' => (R4.out i hi hi').off (OffT.of_below (Ts := []) hb79) (by simp) (by simp)) (Hts.out _ (List.getElem_mem hkt)).1.2
              ((OwnNums.told HNums9.out).in (fun z hz => Nat.le_trans (Hsz.out z hz) (by decide))) (IntAt.raw HIv.out (Nat.le_trans hresS (by decide)))
          have HTN := hid (show TabsIn (wx.setCell ⟨gN, k * 3, none⟩ (.slice p13 (1 + ts[k].rows.length) c13)) (.slice (some ⟨gN, 0, none⟩) 7 c11) (ts.set k ⟨(nums, res) :: ts[k].rows, ts[k].els⟩) by
            have := tabs_new (w := w9) (w1 := wx) (g := gN) (cap := c11) hkt (by rw [Htl.out]; exact hox) Cs1.out Cs3.out (fun i hi hi' => (Cs4.out i hi hi').off (OffT.of_below (Ts := []) hb79) (by simp) (by simp) (by simp)) Hts.out hbF hrows
            rw [Htl.out] at this
            exact this)
          have Hsm2 := hid (tabs_small Hts.out hkt (nums := nums) (res := res) Hsz.out hresS)
          have Heq := hid (show vlEval p.syms (ts.set k ⟨(nums, res) :: ts[k].rows, ts[k].els⟩) p.terms [] = vlEval p.syms ts p.terms [] by
            rw [Hres.out]
            exact eval_more ts k hkt so nums Hso.out p.terms [])
          have N12F := hid (hoff.block _ _ _ ((hb.block w11.heap.size (by omega)).trans N12.out) (by decide))
          generalize hw14 : wx.setCell ⟨gN, k * 3, none⟩ (.slice p13 (1 + ts[k].rows.length) c13) = w14 at *
          have HB14 := hid (bel_go hbF HB9.out)
          have HVa14 := hid (HVa9.out.below hbF)
          have HE2 := hid (mk_eval2 HMk.out Hsy.out Hsm2.out (by rw [List.length_set]; exact Hlt7.out) _ _ _ w14 (tab_later Htab.out (bel_go HB14.out HB7.out)) (HS7.out.below HB14.out) (HT7.out.below HB14.out) HTN.out)
          rw [Heq.out] at HE2
          have x := two_cells ((HB14.out.block w3.heap.size (by omega)).trans N6.out)
          obtain ⟨x0, x1, -, -⟩ := x
          have m0 := (one_cell N12F.out).1
          clear hbF hresS hoff hrows hb9 hox hcurN hw14 hb f13 hb79
          generalize vlEval p.syms ts p.terms [] = L at *
          go_wp2_with fail
          clear x0 x1 m0
          refine HE2.out.mono ?_
          rintro e w15 ⟨vb, rfl, -, hvb, b15⟩
          obtain ⟨pb2, cb2, rfl, -⟩ := id hvb
          have HVb := hid hvb
          have HVa15 := hid (HVa14.out.below b15)
          have HF := hid (bel_go b15 (bel_go HB14.out HB7.out))
          clear hvb b15
          go_wp2_with fail
          refine (SameInts_true _ _ L w15 HVa15.out HVb.out).mono ?_
          rintro e w16 ⟨rfl, b16⟩
          have HF := hid (bel_go b16 HF.out)
          clear b16
          go_wp2
          go_ret
          exact ⟨rfl, HF.out⟩
end Go.Proofs.YtckkpolikdnilaaGreatDoor
/- A tape that comes in as data: its bytes, each below 256. -/
namespace Go.Proofs.YtckkpolikdnilaaGreatDoor
open Go.ChangeShapes Go.WideShapes Go.ChangeAt Go.RowKit Go.Deep Go.Joins Big

section
variable {H : Type} {enc : TypeId × Value → H} {w : World} {base : Nat} {spare : Nat → Bool} {held : Bool}
set_option maxRecDepth 100000 in
theorem open_tape {r : Reach} {b0 : Nat} {v : Value} {d : DataW H} {p : List MemPlace} (hv : Value.okWide Tryz.prog w r b0 50 v) (h : DataW.Trod enc Tryz.prog w base spare held 50 v d p) :
    ∃ l, At w .u8 v l ∧ ∀ y ∈ l, y < 256 := by
  obtain ⟨a, len, cap, rfl⟩ := okWide_slice Tryz.underlying50 hv
  obtain ⟨fuel, hf⟩ := h
  rcases open_ints Tryz.underlying50 Tryz.underlying5 cellsU8 hf with ⟨he, -⟩ | ⟨a', len', cap', zs, he, hb, hl, hm, hz, -, hc, hwf⟩
  · have he : Value.slice a len cap = .slice none 0 0 := by simpa [Value.cells] using he
    rw [he]
    exact ⟨[], At.nil w .u8, fun y h => by cases h⟩
  · have he : Value.slice a len cap = .slice (some a') len' cap' := by simpa [Value.cells] using he
    rw [he]
    have hlz : len' ≤ zs.length := by rw [hz]; split <;> omega
    refine ⟨(zs.take len').map Int.toNat, ?_, fun y hy => by
      obtain ⟨z, hz', rfl⟩ := List.mem_map.1 hy
      have := wf_u8 (hwf z (List.mem_of_mem_take hz'))
      omega⟩
    have e : ((zs.take len').map Int.toNat).length = len' := by simp [Nat.min_eq_left hlz]
    refine ⟨some a', cap', by rw [e], by rw [e]; exact hl, hm, nofun, fun h0 => ?_⟩
    rw [e] at h0
    have hs := hc 0 (by omega)
    obtain ⟨b, off, spot⟩ := a'
    cases spot with
    | some x =>
      exfalso
      revert hs
      unfold World.cell? Addr.add
      split <;> simp
    | none =>
      refine ⟨b, off, rfl, World.block_lt_of_cell? w _ hs, fun i hi => ?_⟩
      rw [e] at hi
      have hci := hc i (by omega)
      have hw := wf_u8 (hwf _ (List.getElem_mem (n := i) (l := zs) (by omega)))
      rw [add_plain] at hci
      rw [hci]
      have hg : zs.getD i 0 = zs[i]'(by omega) := by simp [List.getD, show i < zs.length by omega]
      rw [hg]
      simp only [List.getElem_map, List.getElem_take]
      congr 2
      omega
end
end Go.Proofs.YtckkpolikdnilaaGreatDoor
/- The package-level tables that the rows list, as start-up lays them; a world that holds them. -/
namespace Go.Proofs.YtckkpolikdnilaaGreatDoor
open Go.ChangeShapes Go.WideShapes Go.ChangeAt Go.RowKit

theorem own : ownKnob Tryz.prog.godebug = none := by kernel_rfl
def tabPow : Array Value := #[.int .u64 1, .int .u64 10, .int .u64 100, .int .u64 1000, .int .u64 10000, .int .u64 100000, .int .u64 1000000, .int .u64 10000000, .int .u64 100000000, .int .u64 1000000000, .int .u64 10000000000, .int .u64 100000000000, .int .u64 1000000000000, .int .u64 10000000000000, .int .u64 100000000000000, .int .u64 1000000000000000, .int .u64 10000000000000000, .int .u64 100000000000000000, .int .u64 1000000000000000000, .int .u64 10000000000000000000]
def tab32 : Array Value := #[.int .u8 0, .int .u8 1, .int .u8 28, .int .u8 2, .int .u8 29, .int .u8 14, .int .u8 24, .int .u8 3, .int .u8 30, .int .u8 22, .int .u8 20, .int .u8 15, .int .u8 25, .int .u8 17, .int .u8 4, .int .u8 8, .int .u8 31, .int .u8 27, .int .u8 13, .int .u8 23, .int .u8 21, .int .u8 19, .int .u8 16, .int .u8 7, .int .u8 26, .int .u8 12, .int .u8 18, .int .u8 6, .int .u8 11, .int .u8 5, .int .u8 10, .int .u8 9]
def tab64 : Array Value := #[.int .u8 0, .int .u8 1, .int .u8 56, .int .u8 2, .int .u8 57, .int .u8 49, .int .u8 28, .int .u8 3, .int .u8 61, .int .u8 58, .int .u8 42, .int .u8 50, .int .u8 38, .int .u8 29, .int .u8 17, .int .u8 4, .int .u8 62, .int .u8 47, .int .u8 59, .int .u8 36, .int .u8 45, .int .u8 43, .int .u8 51, .int .u8 22, .int .u8 53, .int .u8 39, .int .u8 33, .int .u8 30, .int .u8 24, .int .u8 18, .int .u8 12, .int .u8 5, .int .u8 63, .int .u8 55, .int .u8 48, .int .u8 27, .int .u8 60, .int .u8 41, .int .u8 37, .int .u8 16, .int .u8 46, .int .u8 35, .int .u8 44, .int .u8 21, .int .u8 52, .int .u8 32, .int .u8 23, .int .u8 11, .int .u8 54, .int .u8 26, .int .u8 40, .int .u8 15, .int .u8 34, .int .u8 20, .int .u8 31, .int .u8 10, .int .u8 25, .int .u8 14, .int .u8 19, .int .u8 9, .int .u8 13, .int .u8 8, .int .u8 7, .int .u8 6]
/-- the object that block k holds behind start-up -/
def laidObj (k : Nat) (o : Obj) : Obj :=
  match o with
  | .cells c t frozen => if k = 0 then .cells tabPow t frozen else if k = 1 then .cells tab32 t frozen else if k = 2 then .cells tab64 t frozen else .cells c t frozen
  | o => o
noncomputable def laidWorld (os : Os) : World :=
  { World.holding Tryz.prog os ⟨#[], #[], []⟩ with heap := (((World.holding Tryz.prog os ⟨#[], #[], []⟩).heap.modify 0 (laidObj 0)).modify 1 (laidObj 1)).modify 2 (laidObj 2) }
end Go.Proofs.YtckkpolikdnilaaGreatDoor
