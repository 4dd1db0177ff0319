/- Texts put together: VlVal, VlEval, VlRSame, PlRows, PlRows2, PlRef, PlRef2, PlRef3, PlRef4, FromOwn, RefOwn, PlSame, PlRef5, PlRef6, OpenNum, PlFixed, PlOpen, PlRef7, PlRef8, VlTyped, VlCond, VlEval2. -/
import Derived.Test.YtckkpolikdnilaaGreatDoorValueEvalsCardM3
import Derived.Deep.DeepCutAuto
import Derived.Deep.RegionHeld3
import Derived.Maps.AppendAt
import Derived.Lib.SmallJoins
import Derived.ChangeSlices
import Derived.OpenShut
import Derived.Carry
import Derived.Deep.DeepHandedRow
import Derived.ProofKit
import Derived.ChangeSame
/- value.meaning's value. -/
namespace Go.Proofs.YtckkpolikdnilaaGreatDoor
open Go.RowKit Big Go.WideMaps

set_option maxRecDepth 100000 in
set_option maxHeartbeats 3200000 in
theorem mval_1 (g : Nat) (w : World) (syms : List Sy) (ts : List Tb5) (t : Tm) (l : List Int) (h : MeanAt w g syms ts t l) (ho : t.op = 1) :
    Calls Tryz.prog 29 #[.pointer (some ⟨g, 0, none⟩)] w (RInt (vlTruth (l.all (fun z => z != 0))) w) := by
  have b0 := below1 w (.cells #[.bool false, .slice none 0 0] 44)
  have hp : Pair (w.alloc (.cells #[.bool false, .slice none 0 0] 44)) w.heap.size 44 := Pair.new ..
  have hm := h.below b0
  generalize hW : w.alloc (.cells #[.bool false, .slice none 0 0] 44) = W at *
  have HM := hid (maker_1 g W syms ts t l hm ho)
  have HV := hid (fun w' (hb : Below W.heap.size W w') => mall_any g w' syms ts t l (hm.below hb))
  have hp := hid hp; have b0 := hid b0
  clear h hm ho
  generalize hz : (vlTruth (l.all (fun z => z != 0)) : Int) = z at *
  clear hz
  go_enter Tryz.func29, Tryz.ntmps29
  go_wp2_with fail
  clear hW
  refine HM.out.mono ?_
  rintro e w2 ⟨rfl, b2⟩
  have Hc := hid (HV.out w2 b2)
  have B2 := hid b2
  clear HM HV b2
  go_wp2_with fail
  refine Hc.out.mono ?_
  rintro e w3 ⟨v3, rfl, hi, b3⟩
  obtain ⟨p, l0, c, rfl, hi⟩ := hi.shape
  have hpr := hid (hp.out.below (bel_go b3 B2.out))
  have hq := hpr.out.cells
  obtain ⟨_, _, q0, q1, q2, q3⟩ := hq
  have Hi := hid hi; have Hb := hid (bel_go (bel_go b3 B2.out) b0.out)
  clear hi b3 Hc
  go_wp2
  exact bodyPost_ret (v := .agg #[.bool (decide (z < 0)), .slice p l0 c]) (by simp [results, Tryz.results29, go_sem, q0, q1]) rfl ⟨_, rfl, Hi.out.stored hpr.out _ _ _ _, Below.stored Hb.out (by omega) _ _⟩
set_option maxRecDepth 100000 in
set_option maxHeartbeats 3200000 in
theorem mval_2 (g : Nat) (w : World) (syms : List Sy) (ts : List Tb5) (t : Tm) (l : List Int) (h : MeanAt w g syms ts t l) (ho : t.op = 2) :
    Calls Tryz.prog 29 #[.pointer (some ⟨g, 0, none⟩)] w (RInt (vlTruth (l.any (fun z : Int => z != 0))) w) := by
  have b0 := below1 w (.cells #[.bool false, .slice none 0 0] 44)
  have hp : Pair (w.alloc (.cells #[.bool false, .slice none 0 0] 44)) w.heap.size 44 := Pair.new ..
  have hm := h.below b0
  generalize hW : w.alloc (.cells #[.bool false, .slice none 0 0] 44) = W at *
  have HM := hid (maker_2 g W syms ts t l hm ho)
  have HV := hid (fun w' (hb : Below W.heap.size W w') => msome_any g w' syms ts t l (hm.below hb))
  have hp := hid hp; have b0 := hid b0
  clear h hm ho
  generalize hz : (vlTruth (l.any (fun z : Int => z != 0)) : Int) = z at *
  clear hz
  go_enter Tryz.func29, Tryz.ntmps29
  go_wp2_with fail
  clear hW
  refine HM.out.mono ?_
  rintro e w2 ⟨rfl, b2⟩
  have Hc := hid (HV.out w2 b2)
  have B2 := hid b2
  clear HM HV b2
  go_wp2_with fail
  refine Hc.out.mono ?_
  rintro e w3 ⟨v3, rfl, hi, b3⟩
  obtain ⟨p, l0, c, rfl, hi⟩ := hi.shape
  have hpr := hid (hp.out.below (bel_go b3 B2.out))
  have hq := hpr.out.cells
  obtain ⟨_, _, q0, q1, q2, q3⟩ := hq
  have Hi := hid hi; have Hb := hid (bel_go (bel_go b3 B2.out) b0.out)
  clear hi b3 Hc
  go_wp2
  exact bodyPost_ret (v := .agg #[.bool (decide (z < 0)), .slice p l0 c]) (by simp [results, Tryz.results29, go_sem, q0, q1]) rfl ⟨_, rfl, Hi.out.stored hpr.out _ _ _ _, Below.stored Hb.out (by omega) _ _⟩
set_option maxRecDepth 100000 in
set_option maxHeartbeats 3200000 in
theorem mval_3 (g : Nat) (w : World) (syms : List Sy) (ts : List Tb5) (t : Tm) (l : List Int) (h : MeanAt w g syms ts t l) (ho : t.op = 3) :
    Calls Tryz.prog 29 #[.pointer (some ⟨g, 0, none⟩)] w (RInt (t.num) w) := by
  have b0 := below1 w (.cells #[.bool false, .slice none 0 0] 44)
  have hp : Pair (w.alloc (.cells #[.bool false, .slice none 0 0] 44)) w.heap.size 44 := Pair.new ..
  have hm := h.below b0
  generalize hW : w.alloc (.cells #[.bool false, .slice none 0 0] 44) = W at *
  have HM := hid (maker_3 g W syms ts t l hm ho)
  have HV := hid (fun w' (hb : Below W.heap.size W w') => mnumber_any g w' syms ts t l (hm.below hb))
  have hp := hid hp; have b0 := hid b0
  clear h hm ho
  generalize hz : (t.num : Int) = z at *
  clear hz
  go_enter Tryz.func29, Tryz.ntmps29
  go_wp2_with fail
  clear hW
  refine HM.out.mono ?_
  rintro e w2 ⟨rfl, b2⟩
  have Hc := hid (HV.out w2 b2)
  have B2 := hid b2
  clear HM HV b2
  go_wp2_with fail
  refine Hc.out.mono ?_
  rintro e w3 ⟨v3, rfl, hi, b3⟩
  obtain ⟨p, l0, c, rfl, hi⟩ := hi.shape
  have hpr := hid (hp.out.below (bel_go b3 B2.out))
  have hq := hpr.out.cells
  obtain ⟨_, _, q0, q1, q2, q3⟩ := hq
  have Hi := hid hi; have Hb := hid (bel_go (bel_go b3 B2.out) b0.out)
  clear hi b3 Hc
  go_wp2
  exact bodyPost_ret (v := .agg #[.bool (decide (z < 0)), .slice p l0 c]) (by simp [results, Tryz.results29, go_sem, q0, q1]) rfl ⟨_, rfl, Hi.out.stored hpr.out _ _ _ _, Below.stored Hb.out (by omega) _ _⟩
set_option maxRecDepth 100000 in
set_option maxHeartbeats 3200000 in
theorem mval_4 (g : Nat) (w : World) (syms : List Sy) (ts : List Tb5) (t : Tm) (l : List Int) (h : MeanAt w g syms ts t l) (ho : t.op = 4) (k : Nat) (hk : t.sym = (k : Nat)) (hs : k < syms.length) (ht : k < ts.length) :
    Calls Tryz.prog 29 #[.pointer (some ⟨g, 0, none⟩)] w (RInt (vlTell (syms[k].sort) ts[k] l) w) := by
  have b0 := below1 w (.cells #[.bool false, .slice none 0 0] 44)
  have hp : Pair (w.alloc (.cells #[.bool false, .slice none 0 0] 44)) w.heap.size 44 := Pair.new ..
  have hm := h.below b0
  generalize hW : w.alloc (.cells #[.bool false, .slice none 0 0] 44) = W at *
  have HM := hid (maker_4 g W syms ts t l hm ho)
  have HV := hid (fun w' (hb : Below W.heap.size W w') => mtold_any g w' syms ts t l (hm.below hb) k hk hs ht)
  have hp := hid hp; have b0 := hid b0
  clear h hm ho
  generalize hz : (vlTell (syms[k].sort) ts[k] l : Int) = z at *
  clear hz
  go_enter Tryz.func29, Tryz.ntmps29
  go_wp2_with fail
  clear hW
  refine HM.out.mono ?_
  rintro e w2 ⟨rfl, b2⟩
  have Hc := hid (HV.out w2 b2)
  have B2 := hid b2
  clear HM HV b2
  go_wp2_with fail
  refine Hc.out.mono ?_
  rintro e w3 ⟨v3, rfl, hi, b3⟩
  obtain ⟨p, l0, c, rfl, hi⟩ := hi.shape
  have hpr := hid (hp.out.below (bel_go b3 B2.out))
  have hq := hpr.out.cells
  obtain ⟨_, _, q0, q1, q2, q3⟩ := hq
  have Hi := hid hi; have Hb := hid (bel_go (bel_go b3 B2.out) b0.out)
  clear hi b3 Hc
  go_wp2
  exact bodyPost_ret (v := .agg #[.bool (decide (z < 0)), .slice p l0 c]) (by simp [results, Tryz.results29, go_sem, q0, q1]) rfl ⟨_, rfl, Hi.out.stored hpr.out _ _ _ _, Below.stored Hb.out (by omega) _ _⟩
set_option maxRecDepth 100000 in
set_option maxHeartbeats 3200000 in
theorem mval_5 (g : Nat) (w : World) (syms : List Sy) (ts : List Tb5) (t : Tm) (l : List Int) (h : MeanAt w g syms ts t l) (ho : t.op = 5) (hl : 1 ≤ l.length) :
    Calls Tryz.prog 29 #[.pointer (some ⟨g, 0, none⟩)] w (RInt (vlTruth (vlAt l 0 == 0)) w) := by
  have b0 := below1 w (.cells #[.bool false, .slice none 0 0] 44)
  have hp : Pair (w.alloc (.cells #[.bool false, .slice none 0 0] 44)) w.heap.size 44 := Pair.new ..
  have hm := h.below b0
  generalize hW : w.alloc (.cells #[.bool false, .slice none 0 0] 44) = W at *
  have HM := hid (maker_5 g W syms ts t l hm ho)
  have HV := hid (fun w' (hb : Below W.heap.size W w') => mnot_any g w' syms ts t l (hm.below hb) hl)
  have hp := hid hp; have b0 := hid b0
  clear h hm ho
  generalize hz : (vlTruth (vlAt l 0 == 0) : Int) = z at *
  clear hz
  go_enter Tryz.func29, Tryz.ntmps29
  go_wp2_with fail
  clear hW
  refine HM.out.mono ?_
  rintro e w2 ⟨rfl, b2⟩
  have Hc := hid (HV.out w2 b2)
  have B2 := hid b2
  clear HM HV b2
  go_wp2_with fail
  refine Hc.out.mono ?_
  rintro e w3 ⟨v3, rfl, hi, b3⟩
  obtain ⟨p, l0, c, rfl, hi⟩ := hi.shape
  have hpr := hid (hp.out.below (bel_go b3 B2.out))
  have hq := hpr.out.cells
  obtain ⟨_, _, q0, q1, q2, q3⟩ := hq
  have Hi := hid hi; have Hb := hid (bel_go (bel_go b3 B2.out) b0.out)
  clear hi b3 Hc
  go_wp2
  exact bodyPost_ret (v := .agg #[.bool (decide (z < 0)), .slice p l0 c]) (by simp [results, Tryz.results29, go_sem, q0, q1]) rfl ⟨_, rfl, Hi.out.stored hpr.out _ _ _ _, Below.stored Hb.out (by omega) _ _⟩
set_option maxRecDepth 100000 in
set_option maxHeartbeats 3200000 in
theorem mval_6 (g : Nat) (w : World) (syms : List Sy) (ts : List Tb5) (t : Tm) (l : List Int) (h : MeanAt w g syms ts t l) (ho : t.op = 6) :
    Calls Tryz.prog 29 #[.pointer (some ⟨g, 0, none⟩)] w (RInt (vlTruth (l.all (fun z => z != 0))) w) := by
  have b0 := below1 w (.cells #[.bool false, .slice none 0 0] 44)
  have hp : Pair (w.alloc (.cells #[.bool false, .slice none 0 0] 44)) w.heap.size 44 := Pair.new ..
  have hm := h.below b0
  generalize hW : w.alloc (.cells #[.bool false, .slice none 0 0] 44) = W at *
  have HM := hid (maker_6 g W syms ts t l hm ho)
  have HV := hid (fun w' (hb : Below W.heap.size W w') => mall_any g w' syms ts t l (hm.below hb))
  have hp := hid hp; have b0 := hid b0
  clear h hm ho
  generalize hz : (vlTruth (l.all (fun z => z != 0)) : Int) = z at *
  clear hz
  go_enter Tryz.func29, Tryz.ntmps29
  go_wp2_with fail
  clear hW
  refine HM.out.mono ?_
  rintro e w2 ⟨rfl, b2⟩
  have Hc := hid (HV.out w2 b2)
  have B2 := hid b2
  clear HM HV b2
  go_wp2_with fail
  refine Hc.out.mono ?_
  rintro e w3 ⟨v3, rfl, hi, b3⟩
  obtain ⟨p, l0, c, rfl, hi⟩ := hi.shape
  have hpr := hid (hp.out.below (bel_go b3 B2.out))
  have hq := hpr.out.cells
  obtain ⟨_, _, q0, q1, q2, q3⟩ := hq
  have Hi := hid hi; have Hb := hid (bel_go (bel_go b3 B2.out) b0.out)
  clear hi b3 Hc
  go_wp2
  exact bodyPost_ret (v := .agg #[.bool (decide (z < 0)), .slice p l0 c]) (by simp [results, Tryz.results29, go_sem, q0, q1]) rfl ⟨_, rfl, Hi.out.stored hpr.out _ _ _ _, Below.stored Hb.out (by omega) _ _⟩
set_option maxRecDepth 100000 in
set_option maxHeartbeats 3200000 in
theorem mval_7 (g : Nat) (w : World) (syms : List Sy) (ts : List Tb5) (t : Tm) (l : List Int) (h : MeanAt w g syms ts t l) (ho : t.op = 7) :
    Calls Tryz.prog 29 #[.pointer (some ⟨g, 0, none⟩)] w (RInt (vlTruth (l.any (fun z : Int => z != 0))) w) := by
  have b0 := below1 w (.cells #[.bool false, .slice none 0 0] 44)
  have hp : Pair (w.alloc (.cells #[.bool false, .slice none 0 0] 44)) w.heap.size 44 := Pair.new ..
  have hm := h.below b0
  generalize hW : w.alloc (.cells #[.bool false, .slice none 0 0] 44) = W at *
  have HM := hid (maker_7 g W syms ts t l hm ho)
  have HV := hid (fun w' (hb : Below W.heap.size W w') => msome_any g w' syms ts t l (hm.below hb))
  have hp := hid hp; have b0 := hid b0
  clear h hm ho
  generalize hz : (vlTruth (l.any (fun z : Int => z != 0)) : Int) = z at *
  clear hz
  go_enter Tryz.func29, Tryz.ntmps29
  go_wp2_with fail
  clear hW
  refine HM.out.mono ?_
  rintro e w2 ⟨rfl, b2⟩
  have Hc := hid (HV.out w2 b2)
  have B2 := hid b2
  clear HM HV b2
  go_wp2_with fail
  refine Hc.out.mono ?_
  rintro e w3 ⟨v3, rfl, hi, b3⟩
  obtain ⟨p, l0, c, rfl, hi⟩ := hi.shape
  have hpr := hid (hp.out.below (bel_go b3 B2.out))
  have hq := hpr.out.cells
  obtain ⟨_, _, q0, q1, q2, q3⟩ := hq
  have Hi := hid hi; have Hb := hid (bel_go (bel_go b3 B2.out) b0.out)
  clear hi b3 Hc
  go_wp2
  exact bodyPost_ret (v := .agg #[.bool (decide (z < 0)), .slice p l0 c]) (by simp [results, Tryz.results29, go_sem, q0, q1]) rfl ⟨_, rfl, Hi.out.stored hpr.out _ _ _ _, Below.stored Hb.out (by omega) _ _⟩
set_option maxRecDepth 100000 in
set_option maxHeartbeats 3200000 in
theorem mval_8 (g : Nat) (w : World) (syms : List Sy) (ts : List Tb5) (t : Tm) (l : List Int) (h : MeanAt w g syms ts t l) (ho : t.op = 8) (hl : 2 ≤ l.length) :
    Calls Tryz.prog 29 #[.pointer (some ⟨g, 0, none⟩)] w (RInt (vlTruth (decide (vlAt l 0 = vlAt l 1))) w) := by
  have b0 := below1 w (.cells #[.bool false, .slice none 0 0] 44)
  have hp : Pair (w.alloc (.cells #[.bool false, .slice none 0 0] 44)) w.heap.size 44 := Pair.new ..
  have hm := h.below b0
  generalize hW : w.alloc (.cells #[.bool false, .slice none 0 0] 44) = W at *
  have HM := hid (maker_8 g W syms ts t l hm ho)
  have HV := hid (fun w' (hb : Below W.heap.size W w') => mequal_any g w' syms ts t l (hm.below hb) hl)
  have hp := hid hp; have b0 := hid b0
  clear h hm ho
  generalize hz : (vlTruth (decide (vlAt l 0 = vlAt l 1)) : Int) = z at *
  clear hz
  go_enter Tryz.func29, Tryz.ntmps29
  go_wp2_with fail
  clear hW
  refine HM.out.mono ?_
  rintro e w2 ⟨rfl, b2⟩
  have Hc := hid (HV.out w2 b2)
  have B2 := hid b2
  clear HM HV b2
  go_wp2_with fail
  refine Hc.out.mono ?_
  rintro e w3 ⟨v3, rfl, hi, b3⟩
  obtain ⟨p, l0, c, rfl, hi⟩ := hi.shape
  have hpr := hid (hp.out.below (bel_go b3 B2.out))
  have hq := hpr.out.cells
  obtain ⟨_, _, q0, q1, q2, q3⟩ := hq
  have Hi := hid hi; have Hb := hid (bel_go (bel_go b3 B2.out) b0.out)
  clear hi b3 Hc
  go_wp2
  exact bodyPost_ret (v := .agg #[.bool (decide (z < 0)), .slice p l0 c]) (by simp [results, Tryz.results29, go_sem, q0, q1]) rfl ⟨_, rfl, Hi.out.stored hpr.out _ _ _ _, Below.stored Hb.out (by omega) _ _⟩
set_option maxRecDepth 100000 in
set_option maxHeartbeats 3200000 in
theorem mval_9 (g : Nat) (w : World) (syms : List Sy) (ts : List Tb5) (t : Tm) (l : List Int) (h : MeanAt w g syms ts t l) (ho : t.op = 9) (hl : 3 ≤ l.length) :
    Calls Tryz.prog 29 #[.pointer (some ⟨g, 0, none⟩)] w (RInt (if vlAt l 0 ≠ 0 then vlAt l 1 else vlAt l 2) w) := by
  have b0 := below1 w (.cells #[.bool false, .slice none 0 0] 44)
  have hp : Pair (w.alloc (.cells #[.bool false, .slice none 0 0] 44)) w.heap.size 44 := Pair.new ..
  have hm := h.below b0
  generalize hW : w.alloc (.cells #[.bool false, .slice none 0 0] 44) = W at *
  have HM := hid (maker_9 g W syms ts t l hm ho)
  have HV := hid (fun w' (hb : Below W.heap.size W w') => mchosen_any g w' syms ts t l (hm.below hb) hl)
  have hp := hid hp; have b0 := hid b0
  clear h hm ho
  generalize hz : (if vlAt l 0 ≠ 0 then vlAt l 1 else vlAt l 2 : Int) = z at *
  clear hz
  go_enter Tryz.func29, Tryz.ntmps29
  go_wp2_with fail
  clear hW
  refine HM.out.mono ?_
  rintro e w2 ⟨rfl, b2⟩
  have Hc := hid (HV.out w2 b2)
  have B2 := hid b2
  clear HM HV b2
  go_wp2_with fail
  refine Hc.out.mono ?_
  rintro e w3 ⟨v3, rfl, hi, b3⟩
  obtain ⟨p, l0, c, rfl, hi⟩ := hi.shape
  have hpr := hid (hp.out.below (bel_go b3 B2.out))
  have hq := hpr.out.cells
  obtain ⟨_, _, q0, q1, q2, q3⟩ := hq
  have Hi := hid hi; have Hb := hid (bel_go (bel_go b3 B2.out) b0.out)
  clear hi b3 Hc
  go_wp2
  exact bodyPost_ret (v := .agg #[.bool (decide (z < 0)), .slice p l0 c]) (by simp [results, Tryz.results29, go_sem, q0, q1]) rfl ⟨_, rfl, Hi.out.stored hpr.out _ _ _ _, Below.stored Hb.out (by omega) _ _⟩
set_option maxRecDepth 100000 in
set_option maxHeartbeats 3200000 in
theorem mval_10 (g : Nat) (w : World) (syms : List Sy) (ts : List Tb5) (t : Tm) (l : List Int) (h : MeanAt w g syms ts t l) (ho : t.op = 10) (hl : 2 ≤ l.length) :
    Calls Tryz.prog 29 #[.pointer (some ⟨g, 0, none⟩)] w (RInt (vlTruth (decide (vlAt l 0 = vlAt l 1))) w) := by
  have b0 := below1 w (.cells #[.bool false, .slice none 0 0] 44)
  have hp : Pair (w.alloc (.cells #[.bool false, .slice none 0 0] 44)) w.heap.size 44 := Pair.new ..
  have hm := h.below b0
  generalize hW : w.alloc (.cells #[.bool false, .slice none 0 0] 44) = W at *
  have HM := hid (maker_10 g W syms ts t l hm ho)
  have HV := hid (fun w' (hb : Below W.heap.size W w') => mequal_any g w' syms ts t l (hm.below hb) hl)
  have hp := hid hp; have b0 := hid b0
  clear h hm ho
  generalize hz : (vlTruth (decide (vlAt l 0 = vlAt l 1)) : Int) = z at *
  clear hz
  go_enter Tryz.func29, Tryz.ntmps29
  go_wp2_with fail
  clear hW
  refine HM.out.mono ?_
  rintro e w2 ⟨rfl, b2⟩
  have Hc := hid (HV.out w2 b2)
  have B2 := hid b2
  clear HM HV b2
  go_wp2_with fail
  refine Hc.out.mono ?_
  rintro e w3 ⟨v3, rfl, hi, b3⟩
  obtain ⟨p, l0, c, rfl, hi⟩ := hi.shape
  have hpr := hid (hp.out.below (bel_go b3 B2.out))
  have hq := hpr.out.cells
  obtain ⟨_, _, q0, q1, q2, q3⟩ := hq
  have Hi := hid hi; have Hb := hid (bel_go (bel_go b3 B2.out) b0.out)
  clear hi b3 Hc
  go_wp2
  exact bodyPost_ret (v := .agg #[.bool (decide (z < 0)), .slice p l0 c]) (by simp [results, Tryz.results29, go_sem, q0, q1]) rfl ⟨_, rfl, Hi.out.stored hpr.out _ _ _ _, Below.stored Hb.out (by omega) _ _⟩
set_option maxRecDepth 100000 in
set_option maxHeartbeats 3200000 in
theorem mval_11 (g : Nat) (w : World) (syms : List Sy) (ts : List Tb5) (t : Tm) (l : List Int) (h : MeanAt w g syms ts t l) (ho : t.op = 11) (hl : 2 ≤ l.length) :
    Calls Tryz.prog 29 #[.pointer (some ⟨g, 0, none⟩)] w (RInt (vlTruth (decide (vlAt l 0 ≤ vlAt l 1))) w) := by
  have b0 := below1 w (.cells #[.bool false, .slice none 0 0] 44)
  have hp : Pair (w.alloc (.cells #[.bool false, .slice none 0 0] 44)) w.heap.size 44 := Pair.new ..
  have hm := h.below b0
  generalize hW : w.alloc (.cells #[.bool false, .slice none 0 0] 44) = W at *
  have HM := hid (maker_11 g W syms ts t l hm ho)
  have HV := hid (fun w' (hb : Below W.heap.size W w') => matMost_any g w' syms ts t l (hm.below hb) hl)
  have hp := hid hp; have b0 := hid b0
  clear h hm ho
  generalize hz : (vlTruth (decide (vlAt l 0 ≤ vlAt l 1)) : Int) = z at *
  clear hz
  go_enter Tryz.func29, Tryz.ntmps29
  go_wp2_with fail
  clear hW
  refine HM.out.mono ?_
  rintro e w2 ⟨rfl, b2⟩
  have Hc := hid (HV.out w2 b2)
  have B2 := hid b2
  clear HM HV b2
  go_wp2_with fail
  refine Hc.out.mono ?_
  rintro e w3 ⟨v3, rfl, hi, b3⟩
  obtain ⟨p, l0, c, rfl, hi⟩ := hi.shape
  have hpr := hid (hp.out.below (bel_go b3 B2.out))
  have hq := hpr.out.cells
  obtain ⟨_, _, q0, q1, q2, q3⟩ := hq
  have Hi := hid hi; have Hb := hid (bel_go (bel_go b3 B2.out) b0.out)
  clear hi b3 Hc
  go_wp2
  exact bodyPost_ret (v := .agg #[.bool (decide (z < 0)), .slice p l0 c]) (by simp [results, Tryz.results29, go_sem, q0, q1]) rfl ⟨_, rfl, Hi.out.stored hpr.out _ _ _ _, Below.stored Hb.out (by omega) _ _⟩
set_option maxRecDepth 100000 in
set_option maxHeartbeats 3200000 in
theorem mval_12 (g : Nat) (w : World) (syms : List Sy) (ts : List Tb5) (t : Tm) (l : List Int) (h : MeanAt w g syms ts t l) (ho : t.op = 12) (hs : ∀ k, k ≤ l.length → sz Big.W (vlSum (l.take k)).natAbs ≤ 549755813888) :
    Calls Tryz.prog 29 #[.pointer (some ⟨g, 0, none⟩)] w (RInt (vlSum l) w) := by
  have b0 := below1 w (.cells #[.bool false, .slice none 0 0] 44)
  have hp : Pair (w.alloc (.cells #[.bool false, .slice none 0 0] 44)) w.heap.size 44 := Pair.new ..
  have hm := h.below b0
  generalize hW : w.alloc (.cells #[.bool false, .slice none 0 0] 44) = W at *
  have HM := hid (maker_12 g W syms ts t l hm ho)
  have HV := hid (fun w' (hb : Below W.heap.size W w') => msum_any g w' syms ts t l (hm.below hb) hs)
  have hp := hid hp; have b0 := hid b0
  clear h hm ho
  generalize hz : (vlSum l : Int) = z at *
  clear hz
  go_enter Tryz.func29, Tryz.ntmps29
  go_wp2_with fail
  clear hW
  refine HM.out.mono ?_
  rintro e w2 ⟨rfl, b2⟩
  have Hc := hid (HV.out w2 b2)
  have B2 := hid b2
  clear HM HV b2
  go_wp2_with fail
  refine Hc.out.mono ?_
  rintro e w3 ⟨v3, rfl, hi, b3⟩
  obtain ⟨p, l0, c, rfl, hi⟩ := hi.shape
  have hpr := hid (hp.out.below (bel_go b3 B2.out))
  have hq := hpr.out.cells
  obtain ⟨_, _, q0, q1, q2, q3⟩ := hq
  have Hi := hid hi; have Hb := hid (bel_go (bel_go b3 B2.out) b0.out)
  clear hi b3 Hc
  go_wp2
  exact bodyPost_ret (v := .agg #[.bool (decide (z < 0)), .slice p l0 c]) (by simp [results, Tryz.results29, go_sem, q0, q1]) rfl ⟨_, rfl, Hi.out.stored hpr.out _ _ _ _, Below.stored Hb.out (by omega) _ _⟩
set_option maxRecDepth 100000 in
set_option maxHeartbeats 3200000 in
theorem mval_13 (g : Nat) (w : World) (syms : List Sy) (ts : List Tb5) (t : Tm) (l : List Int) (h : MeanAt w g syms ts t l) (ho : t.op = 13) (hl : 1 ≤ l.length) (hs0 : sz Big.W t.num.natAbs ≤ 549755813888) (hs1 : ∀ z ∈ l, sz Big.W z.natAbs ≤ 549755813888) :
    Calls Tryz.prog 29 #[.pointer (some ⟨g, 0, none⟩)] w (RInt (t.num * vlAt l 0) w) := by
  have b0 := below1 w (.cells #[.bool false, .slice none 0 0] 44)
  have hp : Pair (w.alloc (.cells #[.bool false, .slice none 0 0] 44)) w.heap.size 44 := Pair.new ..
  have hm := h.below b0
  generalize hW : w.alloc (.cells #[.bool false, .slice none 0 0] 44) = W at *
  have HM := hid (maker_13 g W syms ts t l hm ho)
  have HV := hid (fun w' (hb : Below W.heap.size W w') => mproduct_any g w' syms ts t l (hm.below hb) hl hs0 hs1)
  have hp := hid hp; have b0 := hid b0
  clear h hm ho
  generalize hz : (t.num * vlAt l 0 : Int) = z at *
  clear hz
  go_enter Tryz.func29, Tryz.ntmps29
  go_wp2_with fail
  clear hW
  refine HM.out.mono ?_
  rintro e w2 ⟨rfl, b2⟩
  have Hc := hid (HV.out w2 b2)
  have B2 := hid b2
  clear HM HV b2
  go_wp2_with fail
  refine Hc.out.mono ?_
  rintro e w3 ⟨v3, rfl, hi, b3⟩
  obtain ⟨p, l0, c, rfl, hi⟩ := hi.shape
  have hpr := hid (hp.out.below (bel_go b3 B2.out))
  have hq := hpr.out.cells
  obtain ⟨_, _, q0, q1, q2, q3⟩ := hq
  have Hi := hid hi; have Hb := hid (bel_go (bel_go b3 B2.out) b0.out)
  clear hi b3 Hc
  go_wp2
  exact bodyPost_ret (v := .agg #[.bool (decide (z < 0)), .slice p l0 c]) (by simp [results, Tryz.results29, go_sem, q0, q1]) rfl ⟨_, rfl, Hi.out.stored hpr.out _ _ _ _, Below.stored Hb.out (by omega) _ _⟩
/-- what a term must bring, that its value is what its Op says -/
structure VlFit (syms : List Sy) (ts : List Tb5) (t : Tm) (l : List Int) : Prop where
  op : 1 ≤ t.op ∧ t.op ≤ 13
  sym : t.op = 4 → 0 ≤ t.sym ∧ t.sym < syms.length ∧ t.sym < ts.length
  one : t.op = 5 ∨ t.op = 13 → 1 ≤ l.length
  two : t.op = 8 ∨ t.op = 10 ∨ t.op = 11 → 2 ≤ l.length
  three : t.op = 9 → 3 ≤ l.length
  sums : t.op = 12 → ∀ k, k ≤ l.length → sz Big.W (vlSum (l.take k)).natAbs ≤ 549755813888
  num : sz Big.W t.num.natAbs ≤ 549755813888
  parts : ∀ z ∈ l, sz Big.W z.natAbs ≤ 549755813888
theorem value_any (g : Nat) (w : World) (syms : List Sy) (ts : List Tb5) (t : Tm) (l : List Int) (h : MeanAt w g syms ts t l) (hf : VlFit syms ts t l) :
    Calls Tryz.prog 29 #[.pointer (some ⟨g, 0, none⟩)] w (RInt (vlOp syms ts t l) w) := by
  have ho := hf.op
  have hc : t.op = 1 ∨ t.op = 2 ∨ t.op = 3 ∨ t.op = 4 ∨ t.op = 5 ∨ t.op = 6 ∨ t.op = 7 ∨ t.op = 8 ∨ t.op = 9 ∨ t.op = 10 ∨ t.op = 11 ∨ t.op = 12 ∨ t.op = 13 := by omega
  unfold vlOp
  rcases hc with hc | hc | hc | hc | hc | hc | hc | hc | hc | hc | hc | hc | hc
  · have hv := mval_1 g w syms ts t l h hc
    simpa [hc] using hv
  · have hv := mval_2 g w syms ts t l h hc
    simpa [hc] using hv
  · have hv := mval_3 g w syms ts t l h hc
    simpa [hc] using hv
  · obtain ⟨k, hk⟩ : ∃ k : Nat, t.sym = (k : Nat) := ⟨t.sym.toNat, by have := (hf.sym hc).1; omega⟩
    have hs : k < syms.length := by have := (hf.sym hc).2.1; omega
    have ht : k < ts.length := by have := (hf.sym hc).2.2; omega
    have he : vlTell ((syms[t.sym.toNat]?.getD ⟨[], 0, 0⟩).sort) (vlTabAt ts t.sym) l = vlTell (syms[k].sort) ts[k] l := by
      unfold vlTabAt; rw [hk]; simp [hs, ht]
    simp only [hc]
    rw [show (RInt _ w : Ending → World → Prop) = RInt (vlTell (syms[k].sort) ts[k] l) w from by simp [he]]
    exact mval_4 g w syms ts t l h hc k hk hs ht
  · have hv := mval_5 g w syms ts t l h hc (hf.one (.inl hc))
    simpa [hc] using hv
  · have hv := mval_6 g w syms ts t l h hc
    simpa [hc] using hv
  · have hv := mval_7 g w syms ts t l h hc
    simpa [hc] using hv
  · have hv := mval_8 g w syms ts t l h hc (hf.two (by omega))
    simpa [hc] using hv
  · have hv := mval_9 g w syms ts t l h hc (hf.three hc)
    simpa [hc] using hv
  · have hv := mval_10 g w syms ts t l h hc (hf.two (by omega))
    simpa [hc] using hv
  · have hv := mval_11 g w syms ts t l h hc (hf.two (by omega))
    simpa [hc] using hv
  · have hv := mval_12 g w syms ts t l h hc (hf.sums hc)
    simpa [hc] using hv
  · have hv := mval_13 g w syms ts t l h hc (hf.one (.inr hc)) hf.num hf.parts
    simpa [hc] using hv
end Go.Proofs.YtckkpolikdnilaaGreatDoor
/- value.Eval where it answers. -/
namespace Go.Proofs.YtckkpolikdnilaaGreatDoor
open Go.RowKit Big Go.WideMaps

theorem made_noWord (n : Nat) : (madeCells (Value.agg #[.bool false, .slice none 0 0]).cells n).all noWord = true := by
  rw [Array.all_eq_true']
  intro x hx
  simp only [madeCells, Array.mem_map] at hx
  obtain ⟨i, -, rfl⟩ := hx
  have h : i % 2 < 2 := Nat.mod_lt _ (by omega)
  have e : ∀ j, j < 2 → noWord ((Value.agg #[.bool false, .slice none 0 0]).cells[j]!) = true := by
    intro j hj
    have : j = 0 ∨ j = 1 := by omega
    rcases this with rfl | rfl <;> rfl
  exact e _ h
theorem RowQ.made (w : World) (L : Nat) (hL : L ≤ 1048576) :
    (Instr.makeSlice 32 (.int .i64 0) (.int .i64 (L : Nat))).run Tryz.prog w = .ok (.slice (some ⟨w.heap.size, 0, none⟩) 0 L) (w.alloc (.cells (madeCells (Value.agg #[.bool false, .slice none 0 0]).cells (L * 2)) 44)) ∧
      RowQ (w.alloc (.cells (madeCells (Value.agg #[.bool false, .slice none 0 0]).cells (L * 2)) 44)) w.heap.size 0 L [] := by
  obtain ⟨i0, hi, hz0, hz1, hz2⟩ := info_parts infoNum
  have hr := run_make (P := Tryz.prog) w 32 44 i0 _ Tryz.underlying32 hi hz0 .i64 .i64 0 (L : Nat) (Int.le_refl _) (by omega) (by rw [hz2]; omega) (by omega)
  rw [hz1] at hr
  refine ⟨by simpa using hr, _, heap_alloc_new w _, size_madeCells _ _, by simp, rfl, made_noWord _, Nat.zero_le _, by simp [maxLen]; omega⟩
theorem RowQ.in {w : World} {g n L : Nat} {cs : List Value} {l : List Int} (h : RowQ w g n L cs) (hc : VlCells w l cs) (hn : l.length = n) : NumsIn w (.slice (some ⟨g, 0, none⟩) n L) l := by
  subst hn
  obtain ⟨cur, h0, h1, h2, h3, -, h5, h6⟩ := h
  refine ⟨_, L, rfl, h5, h6, by simp, fun _ => ⟨g, 0, rfl, (Array.getElem?_eq_some_iff.1 h0).1, fun i hi => ?_⟩⟩
  obtain ⟨n, s, e0, e1, hr⟩ := hc.at i hi
  have a : ∀ j, j < l.length * 2 → w.cell? ⟨g, j, none⟩ = cs[j]? := by
    intro j hj
    rw [cell_of_row w g j _ _ (0, 0) h0, ← h2, List.getElem?_take_of_lt hj, Array.getElem?_toList]
  refine ⟨n, s, ?_, ?_, hr⟩
  · rw [Nat.zero_add, a _ (by omega), e0]
  · rw [Nat.zero_add, a _ (by omega), e1]
/-- the cells of a row of told numbers -/
def TCells (w : World) : List Int → List Value → Prop
  | [], cs => cs = []
  | z :: l, cs => ∃ s r, cs = .bool (decide (z < 0)) :: s :: r ∧ IntAt w (.agg #[.bool (decide (z < 0)), s]) z ∧ TCells w l r
theorem TCells.below {w w' : World} (hb : Below w.heap.size w w') : ∀ {l : List Int} {cs : List Value}, TCells w l cs → TCells w' l cs
  | [], _, h => h
  | _ :: _, _, ⟨s, r, e, h, hr⟩ => ⟨s, r, e, h.below hb, TCells.below hb hr⟩
theorem TCells.snoc {w : World} {s : Value} {z : Int} (h : IntAt w (.agg #[.bool (decide (z < 0)), s]) z) : ∀ {l : List Int} {cs : List Value}, TCells w l cs → TCells w (l ++ [z]) (cs ++ [.bool (decide (z < 0)), s])
  | [], _, e => by cases e; exact ⟨s, [], rfl, h, rfl⟩
  | _ :: _, _, ⟨s', r, e, h', hr⟩ => by subst e; exact ⟨s', r ++ [.bool (decide (z < 0)), s], rfl, h', TCells.snoc h hr⟩
theorem TCells.at {w : World} : ∀ {l : List Int} {cs : List Value}, TCells w l cs → ∀ i (hi : i < l.length), ∃ s, cs[i * 2]? = some (.bool (decide (l[i] < 0))) ∧ cs[i * 2 + 1]? = some s ∧ IntAt w (.agg #[.bool (decide (l[i] < 0)), s]) l[i]
  | _ :: l, _, ⟨s, r, e, h, hr⟩, 0, _ => by subst e; exact ⟨s, rfl, rfl, h⟩
  | _ :: l, _, ⟨s, r, e, h, hr⟩, i + 1, hi => by
    subst e
    obtain ⟨s', h1, h2, h3⟩ := TCells.at hr i (by simpa using hi)
    refine ⟨s', ?_, ?_, by simpa using h3⟩
    · rw [show (i + 1) * 2 = i * 2 + 1 + 1 from by omega]; simpa using h1
    · rw [show (i + 1) * 2 + 1 = i * 2 + 1 + 1 + 1 from by omega]; simpa using h2
theorem IntAt.offQ {w w' : World} {g n L : Nat} {cs : List Value} {v : Value} {z : Int} (h : IntAt w v z) (hq : RowQ w g n L cs) (hz : w.heap.size ≤ w'.heap.size) (hb : ∀ k, k < w.heap.size → k ≠ g → w'.heap[k]? = w.heap[k]?) : IntAt w' v z := by
  obtain ⟨s, hs, ha⟩ := h
  exact ⟨s, hs, ha.offQ hq hz hb⟩
theorem TCells.offQ {w w' : World} {g n L : Nat} {cs0 : List Value} (hq : RowQ w g n L cs0) (hz : w.heap.size ≤ w'.heap.size) (hb : ∀ k, k < w.heap.size → k ≠ g → w'.heap[k]? = w.heap[k]?) : ∀ {l : List Int} {cs : List Value}, TCells w l cs → TCells w' l cs
  | [], _, h => h
  | _ :: _, _, ⟨s, r, e, h, hr⟩ => ⟨s, r, e, h.offQ hq hz hb, TCells.offQ hq hz hb hr⟩
/-- a slice that reads as a list of told numbers -/
def NumsTold (w : World) (v : Value) (l : List Int) : Prop :=
  ∃ p cap, v = .slice p l.length cap ∧ l.length ≤ cap ∧ cap ≤ maxLen ∧ (p = none → cap = 0) ∧
    (0 < l.length → ∃ b off, p = some ⟨b, off, none⟩ ∧ b < w.heap.size ∧ ∀ i (h : i < l.length), ∃ s, w.cell? ⟨b, off + i * 2, none⟩ = some (.bool (decide (l[i] < 0))) ∧ w.cell? ⟨b, off + i * 2 + 1, none⟩ = some s ∧ IntAt w (.agg #[.bool (decide (l[i] < 0)), s]) l[i])
theorem NumsTold.nil (w : World) : NumsTold w (.slice none 0 0) [] := ⟨none, 0, rfl, by simp, by simp [maxLen], fun _ => rfl, fun h => absurd h (by simp)⟩
theorem NumsTold.below {w w' : World} {v : Value} {l : List Int} (h : NumsTold w v l) (hb : Below w.heap.size w w') : NumsTold w' v l := by
  obtain ⟨p, cap, hv, h1, h2, h3, h4⟩ := h
  refine ⟨p, cap, hv, h1, h2, h3, fun hp => ?_⟩
  obtain ⟨b, off, h5, h6, h7⟩ := h4 hp
  refine ⟨b, off, h5, Nat.lt_of_lt_of_le h6 hb.size, fun i hi => ?_⟩
  obtain ⟨s, k1, k2, k3⟩ := h7 i hi
  exact ⟨s, (hb.cell (p := ⟨b, off + i * 2, none⟩) h6).trans k1, (hb.cell (p := ⟨b, off + i * 2 + 1, none⟩) h6).trans k2, k3.below hb⟩
theorem RowQ.told {w : World} {g n L : Nat} {cs : List Value} {l : List Int} (h : RowQ w g n L cs) (hc : TCells w l cs) (hn : l.length = n) : NumsTold w (.slice (some ⟨g, 0, none⟩) n L) l := by
  subst hn
  obtain ⟨cur, h0, h1, h2, h3, -, h5, h6⟩ := h
  refine ⟨_, L, rfl, h5, h6, by simp, fun _ => ⟨g, 0, rfl, (Array.getElem?_eq_some_iff.1 h0).1, fun i hi => ?_⟩⟩
  obtain ⟨s, e0, e1, hr⟩ := hc.at i hi
  have a : ∀ j, j < l.length * 2 → w.cell? ⟨g, j, none⟩ = cs[j]? := by
    intro j hj
    rw [cell_of_row w g j _ _ (0, 0) h0, ← h2, List.getElem?_take_of_lt hj, Array.getElem?_toList]
  refine ⟨s, ?_, ?_, hr⟩
  · rw [Nat.zero_add, a _ (by omega), e0]
  · rw [Nat.zero_add, a _ (by omega), e1]
end Go.Proofs.YtckkpolikdnilaaGreatDoor
/- elenchusref05.SameInts of numbers that are the same. -/
namespace Go.Proofs.YtckkpolikdnilaaGreatDoor
open Go.RowKit Big Go.WideMaps

theorem NumsTold.at {w : World} {v : Value} {l : List Int} (h : NumsTold w v l) (i : Nat) (hi : i < l.length) : ∃ b o c q d g, v = .slice (some ⟨b, o, none⟩) l.length c ∧ b < w.heap.size ∧ w.cell? ⟨b, o + i * 2, none⟩ = some (.bool (decide (l[i] < 0))) ∧ w.cell? ⟨b, o + i * 2 + 1, none⟩ = some (.slice q d g) ∧ IntAt w (.agg #[.bool (decide (l[i] < 0)), .slice q d g]) l[i] := by
  obtain ⟨p, c, rfl, -, -, -, h4⟩ := h
  obtain ⟨b, o, rfl, hb, hc⟩ := h4 (by omega)
  obtain ⟨s, k0, k1, hr⟩ := hc i hi
  obtain ⟨q, d, g, e, hr'⟩ := hr.shape
  have e2 : s = .slice q d g := by
    injection e with e
    simp only [Array.mk.injEq, List.cons.injEq, and_true, true_and] at e
    exact e
  subst e2
  exact ⟨b, o, c, q, d, g, rfl, hb, k0, k1, hr⟩
set_option maxRecDepth 100000 in
set_option maxHeartbeats 6400000 in
theorem SameInts_true (va vb : Value) (l : List Int) (w : World) (ha : NumsTold w va l) (hb : NumsTold w vb l) : Calls Tryz.prog 13 #[va, vb] w (RBool true w) := by
  have Ha := hid ha; have Hb := hid hb
  obtain ⟨pa, ca, rfl, a1, a2, -, -⟩ := ha
  obtain ⟨pb, cb, rfl, b1, b2, -, -⟩ := hb
  unfold maxLen at a2 b2
  obtain ⟨L, hL⟩ : ∃ L, L = l.length := ⟨_, rfl⟩
  have HL := hid hL
  rw [← hL] at a1 b1 Ha Hb ⊢
  clear hL
  go_enter Tryz.func13, Tryz.ntmps13
  go_wp2_with fail
  go_loopw [13] (fun i wr => ∃ k : Nat, k ≤ L ∧ i = .int .i64 (k : Nat) ∧ Hid (Below w.heap.size w wr)) (fun i _ => L - (intOf i).toNat)
  case atStart => exact ⟨0, Nat.zero_le _, rfl, hid (Below.refl _ _)⟩
  case round =>
    obtain ⟨k, hk, rfl, HB⟩ := hrel
    by_cases hlt : k < L
    · have hkl : k < l.length := by rw [← HL.out]; exact hlt
      have hlt' : (k : Int) < (L : Int) := by omega
      have hA := Ha.out.at k hkl
      obtain ⟨ba, oa, xa, qa, da, ga, ea, a5, m0, m1, ma⟩ := hA
      have hB := Hb.out.at k hkl
      obtain ⟨bb, ob, xb, qb, db, gb, eb, b5, n0, n1, nb⟩ := hB
      injection ea with ea1 ea2 ea3
      injection eb with eb1 eb2 eb3
      subst ea1 ea3 eb1 eb3
      clear ea2 eb2
      have Hsame := hid (fun W (hw : Below wr.heap.size wr W) => SameInt_same _ _ l[k] W (ma.below (bel_go hw HB.out)) (nb.below (bel_go hw HB.out)))
      generalize decide (l[k] < 0) = sg at *
      have HS : Hid (∀ w', Below wr.heap.size wr w' → w'.cell? ⟨ba, oa + k * 2, none⟩ = some (.bool sg) ∧ w'.cell? ⟨ba, oa + k * 2 + 1, none⟩ = some (.slice qa da ga) ∧ w'.cell? ⟨bb, ob + k * 2, none⟩ = some (.bool sg) ∧ w'.cell? ⟨bb, ob + k * 2 + 1, none⟩ = some (.slice qb db gb) ∧ Below wr.heap.size wr w') := hid fun w' hb =>
        ⟨((bel_go hb HB.out).cell (p := ⟨ba, oa + k * 2, none⟩) a5).trans m0, ((bel_go hb HB.out).cell (p := ⟨ba, oa + k * 2 + 1, none⟩) a5).trans m1, ((bel_go hb HB.out).cell (p := ⟨bb, ob + k * 2, none⟩) b5).trans n0, ((bel_go hb HB.out).cell (p := ⟨bb, ob + k * 2 + 1, none⟩) b5).trans n1, hb⟩
      clear m0 m1 n0 n1 ma nb Ha Hb a5 b5
      go_upto_region 6 with fail
      go_region_held3 (fun w' => w'.cell? ⟨ba, oa + k * 2, none⟩ = some (.bool sg) ∧ w'.cell? ⟨ba, oa + k * 2 + 1, none⟩ = some (.slice qa da ga) ∧ w'.cell? ⟨bb, ob + k * 2, none⟩ = some (.bool sg) ∧ w'.cell? ⟨bb, ob + k * 2 + 1, none⟩ = some (.slice qb db gb) ∧ Below wr.heap.size wr w')
        (first | exact HS.out _ (Below.drew (Below.refl _ _)) | (refine HS.out _ (bel_go hb1 ?_); go_split_ands; assumption))
        (first | (go_at_call 14; (with_reducible refine (Hsame.out _ (by go_split_ands; assumption)).mono ?_); rintro e w1 ⟨rfl, hb1⟩))
      go_split_ands
      have HBb := hid (show Below wr.heap.size wr w1 by assumption)
      go_wp2_with fail
      go_roundw
      case rel => exact ⟨k + 1, by omega, by go_num, hid (bel_go HBb.out HB.out)⟩
      case measure => simp [intOf]; omega
    · obtain rfl : k = L := by omega
      go_wp2_with fail
      go_ret
      exact ⟨rfl, HB.out⟩
end Go.Proofs.YtckkpolikdnilaaGreatDoor
/- pool.copied of terms. -/
namespace Go.Proofs.YtckkpolikdnilaaGreatDoor
open Go.RowKit Big Go.WideMaps

theorem TmIn.handed {w : World} {S : Nat → Prop} {vo : Value} {t : Tm} {c : List Value} (h : TmIn w S vo t c) (hs : sz W t.num.natAbs ≤ 1099511627776) : TmRaw w (.agg c.toArray) t := h.raw hs
theorem TmRows.in {w : World} {S : Nat → Prop} {vo v : Value} {l : List Tm} {cs : List Value} (h : TmRows w S vo l cs) (hrow : w.ownsRow 0 71 5 v l.length cs) (hs : ∀ t ∈ l, sz W t.num.natAbs ≤ 1099511627776) : TmsIn w v l := by
  obtain ⟨p, cap, rfl, h1, h2, h3, h4⟩ := row_handed hrow
  refine ⟨p, cap, rfl, h1, h2, h3, fun hl => ?_⟩
  obtain ⟨b, hp, hb, hc⟩ := h4 hl
  refine ⟨b, 0, hp, hb, fun i hi => ?_⟩
  obtain ⟨c, ht, hj⟩ := h.at i hi
  have hr := ht.raw (hs _ (List.getElem_mem hi))
  obtain ⟨va, vn, rfl, -⟩ := ht
  have e0 := hj 0 (by decide); have e1 := hj 1 (by decide); have e2 := hj 2 (by decide); have e3 := hj 3 (by decide); have e4 := hj 4 (by decide)
  exact ⟨_, _, _, _, _, by rw [Nat.zero_add]; exact hc _ _ e0, by rw [Nat.zero_add]; exact hc _ _ e1, by rw [Nat.zero_add]; exact hc _ _ e2, by rw [Nat.zero_add]; exact hc _ _ e3, by rw [Nat.zero_add]; exact hc _ _ e4, hr⟩
/-- terms in rows of the call's own, from block B on -/
def TmsOwn (B : Nat) (w : World) (v : Value) (l : List Tm) : Prop := ∃ cs, w.ownsRow B 71 5 v l.length cs ∧ TmRows w (fun k => B ≤ k) (.slice none 0 0) l cs
theorem TmRows.below {w w' : World} {S : Nat → Prop} {vo : Value} {l : List Tm} {cs : List Value} (h : TmRows w S vo l cs) (hb : Below w.heap.size w w') : TmRows w' S vo l cs :=
  h.stays (fun _ h => h) (fun k _ hc => by rcases hc with ⟨cc, hc⟩ | ⟨⟨cc, hc⟩, _⟩ <;> exact hb.block k (lt_of_block hc)) (.inl rfl)
theorem TmsOwn.below {B : Nat} {w w' : World} {v : Value} {l : List Tm} (h : TmsOwn B w v l) (hb : Below w.heap.size w w') : TmsOwn B w' v l := by
  obtain ⟨cs, h1, h2⟩ := h
  exact ⟨cs, ownsRow_later h1 hb, h2.below hb⟩
theorem TmsOwn.in {B : Nat} {w : World} {v : Value} {l : List Tm} (h : TmsOwn B w v l) (hs : ∀ t ∈ l, sz W t.num.natAbs ≤ 1099511627776) : TmsIn w v l := by
  obtain ⟨cs, h1, h2⟩ := h
  exact h2.in (ownsRow_mono h1 (Nat.zero_le _)) hs
/-- rows of terms stay when a row of terms grows -/
theorem TmRows.grown {w w' : World} {S : Nat → Prop} {l : List Tm} {cs : List Value} {v : Value} {B n : Nat} {xs : List Value} (h : TmRows w S (.slice none 0 0) l cs) (hr : w.ownsRow B 71 5 v n xs) (hg : w.grownBy w' v.ownBlock) : TmRows w' S (.slice none 0 0) l cs :=
  h.stays (fun _ h => h) (fun k _ hc => by
    have hne : ∀ (c : Array Value) t, w.heap[k]? = some (.cells c t (0, 0)) → t ≠ 71 → some k ≠ v.ownBlock := fun c t hc hne e => by
      obtain ⟨c', hc'⟩ := row_tag hr k e.symm
      exact tag_ne hc hc' hne rfl
    rcases hc with ⟨cc, hc⟩ | ⟨⟨cc, hc⟩, _⟩
    · exact hg.block k (lt_of_block hc) (hne _ _ hc (by decide))
    · exact hg.block k (lt_of_block hc) (hne _ _ hc (by decide))) (.inl rfl)
end Go.Proofs.YtckkpolikdnilaaGreatDoor
/- (*pool.Pool).Rows. -/
namespace Go.Proofs.YtckkpolikdnilaaGreatDoor
open Go.RowKit Big Go.WideMaps

theorem TmsOwn.mono {B B' : Nat} {w : World} {v : Value} {l : List Tm} (h : TmsOwn B w v l) (hb : B' ≤ B) : TmsOwn B' w v l := by
  obtain ⟨cs, h1, h2⟩ := h
  refine ⟨cs, ownsRow_mono h1 hb, h2.stays (fun k hk => Nat.le_trans hb hk) (fun _ _ _ => rfl) (.inl rfl)⟩
theorem TmsOwn.setFar {B : Nat} {w : World} {v : Value} {l : List Tm} (h : TmsOwn B w v l) (a : Addr) (u : Value) (ha : a.block < B) : TmsOwn B (w.setCell a u) v l := by
  obtain ⟨cs, h1, h2⟩ := h
  exact ⟨cs, ownsRow_setCell_below h1 ha u, h2.stays (fun _ h => h) (fun k hk _ => Below.heap_setCell _ _ _ _ (by have : B ≤ k := hk; omega)) (.inl rfl)⟩
def symF (B : Nat) (l : List Sy) : SFact := ⟨fun v w => w.ownsRow B 39 3 v l.length (syCells l), fun _ _ _ h hb => ownsRow_later h hb⟩
def tmsF (B : Nat) (l : List Tm) : SFact := ⟨fun v w => TmsOwn B w v l, fun _ _ _ h hb => h.below hb⟩
/-- rows in memory of the call's own -/
def RowsOwn (B : Nat) (w : World) (v : Value) (s : List Sy) (t : List Tm) : Prop := ∃ a b, v = .agg #[a, b] ∧ w.ownsRow B 39 3 a s.length (syCells s) ∧ TmsOwn B w b t
theorem RowsOwn.below {B : Nat} {w w' : World} {v : Value} {s : List Sy} {t : List Tm} (h : RowsOwn B w v s t) (hb : Below w.heap.size w w') : RowsOwn B w' v s t := by
  obtain ⟨a, b, h1, h2, h3⟩ := h
  exact ⟨a, b, h1, ownsRow_later h2 hb, h3.below hb⟩
def rowsF (B : Nat) (s : List Sy) (t : List Tm) : SFact := ⟨fun v w => RowsOwn B w v s t, fun _ _ _ h hb => h.below hb⟩
end Go.Proofs.YtckkpolikdnilaaGreatDoor
/- elenchusref04.Sort, counts: over rows that may be. -/
namespace Go.Proofs.YtckkpolikdnilaaGreatDoor
open Go.RowKit Big Go.WideMaps

/-- rows of which each term was made over those ahead -/
def PoGood (p : Po) : Prop := p.sorts.length = p.terms.length ∧ p.terms.length ≤ 4096 ∧ p.syms.length ≤ 256 ∧ ∀ k (h : k < p.terms.length), (p.terms[k].op = 4 → ∃ j : Nat, p.terms[k].sym = (j : Nat) ∧ j < p.syms.length) ∧ (p.terms[k].op = 9 → ∃ (h1 : 1 < p.terms[k].args.length) (j : Nat), p.terms[k].args[1] = (j : Nat) ∧ j < k) ∧
  1 ≤ p.terms[k].op ∧ p.terms[k].op ≤ 13 ∧ plSortAt p (k : Nat) = plSort p p.terms[k]
/-- rows that are handed in -/
def RwIn (w : World) (v : Value) (s : List Sy) (t : List Tm) : Prop := ∃ a b, v = .agg #[a, b] ∧ SyIn w a s ∧ TmsIn w b t
theorem RwIn.below {w w' : World} {v : Value} {s : List Sy} {t : List Tm} (h : RwIn w v s t) (hb : Below w.heap.size w w') : RwIn w' v s t := by
  obtain ⟨a, b, e, h1, h2⟩ := h
  exact ⟨a, b, e, h1.below hb, h2.below hb⟩
theorem plSort_three (p : Po) (t : Tm) (h : t.op = 3 ∨ t.op = 12 ∨ t.op = 13) : plSort p t = 2 := by
  unfold plSort
  rcases h with h | h | h <;> rw [if_neg (by omega), if_neg (by omega), h] <;> rfl
theorem plSort_bool (p : Po) (t : Tm) (h1 : 1 ≤ t.op) (h2 : t.op ≤ 13) (h3 : t.op ≠ 3) (h4 : t.op ≠ 4) (h9 : t.op ≠ 9) (h12 : t.op ≠ 12) (h13 : t.op ≠ 13) : plSort p t = 1 := by
  unfold plSort
  rw [if_neg h4, if_neg h9]
  have : t.op = 1 ∨ t.op = 2 ∨ t.op = 5 ∨ t.op = 6 ∨ t.op = 7 ∨ t.op = 8 ∨ t.op = 10 ∨ t.op = 11 := by omega
  rcases this with h | h | h | h | h | h | h | h <;> rw [h] <;> rfl
set_option maxRecDepth 100000 in
set_option maxHeartbeats 12800000 in
theorem RSort_any (p : Po) (hp : PoGood p) : ∀ (k : Nat) (v : Value) (w : World), RwIn w v p.syms p.terms → k < p.terms.length → Calls Tryz.prog 20 #[v, .int .i64 (k : Nat)] w (RNum .i64 (plSortAt p (k : Nat)) w) := by
  intro k
  induction k using Nat.strongRecOn with
  | _ k ih =>
  intro v w hr hk
  have Hr := hid hr
  obtain ⟨va, vb, rfl, hs, ht⟩ := hr
  obtain ⟨h4, h9, hlo, hhi, hso⟩ := hp.2.2.2 k hk
  obtain ⟨pa, ca, rfl, a1, a2, a3, a4⟩ := hs
  obtain ⟨pb, cb, rfl, b1, b2, b3, b4⟩ := ht
  obtain ⟨bb, off, rfl, j1, j2⟩ := b4 (by omega)
  obtain ⟨c0, c1, c2, c3, c4, m0, m1, m2, m3, m4, hraw⟩ := j2 k hk
  have hkl : (k : Int) < (p.terms.length : Nat) := by omega
  rw [hso]
  obtain ⟨x, hx⟩ : ∃ x, x = p.terms[k] := ⟨_, rfl⟩
  rw [← hx] at hraw h4 h9 hlo hhi ⊢
  obtain ⟨pc, cc, b, pm, nm, cm, ea, hargs, -⟩ := hraw
  simp only [Value.agg.injEq, Array.mk.injEq, List.cons.injEq, and_true] at ea
  obtain ⟨rfl, rfl, rfl, rfl, rfl⟩ := ea
  have Hx := hid hx
  clear hx
  obtain ⟨op, ar, nu, sy⟩ := x
  dsimp only at *
  have bx := below1 w (.cells #[.slice pa p.syms.length ca, .slice (some ⟨bb, off, none⟩) p.terms.length cb] 25)
  have hx0 := heap_alloc_new w (.cells #[.slice pa p.syms.length ca, .slice (some ⟨bb, off, none⟩) p.terms.length cb] 25)
  have q := two_cells hx0
  obtain ⟨q0, q1, -, -⟩ := q
  have hz := size_alloc w (.cells #[.slice pa p.syms.length ca, .slice (some ⟨bb, off, none⟩) p.terms.length cb] 25)
  have m0 := (bx.cell (p := ⟨bb, off + k * 5, none⟩) j1).trans m0
  have m1 := (bx.cell (p := ⟨bb, off + k * 5 + 1, none⟩) j1).trans m1
  have m2 := (bx.cell (p := ⟨bb, off + k * 5 + 2, none⟩) j1).trans m2
  have m3 := (bx.cell (p := ⟨bb, off + k * 5 + 3, none⟩) j1).trans m3
  have m4 := (bx.cell (p := ⟨bb, off + k * 5 + 4, none⟩) j1).trans m4
  have by_ := below1 (w.alloc (.cells #[.slice pa p.syms.length ca, .slice (some ⟨bb, off, none⟩) p.terms.length cb] 25)) (.cells #[.int .i64 op, .slice pc ar.length cc, .bool b, .slice pm nm cm, .int .i64 sy] 71)
  have hy0 := heap_alloc_new (w.alloc (.cells #[.slice pa p.syms.length ca, .slice (some ⟨bb, off, none⟩) p.terms.length cb] 25)) (.cells #[.int .i64 op, .slice pc ar.length cc, .bool b, .slice pm nm cm, .int .i64 sy] 71)
  rw [hz] at hy0
  have hx1 := (by_.block w.heap.size (by omega)).trans hx0
  have bw := bel_go by_ bx
  have qy := five_cells hy0
  have q1' := two_cells hx1
  unfold maxLen at b2 a2
  clear hso j2 b4 hx0 hy0 hx1 b3 a3
  by_cases c3 : op = 3 ∨ op = 12 ∨ op = 13
  · have hsr := plSort_three p ⟨op, ar, nu, sy⟩ c3
    rw [hsr]
    obtain ⟨y0, -, -, -, -⟩ := qy
    clear hsr a4 h4 h9 hargs q1' Hr ih
    clear hlo hhi
    rcases c3 with rfl | rfl | rfl
    all_goals
      go_enter Tryz.func20, Tryz.ntmps20
      go_wp2
      go_ret
      exact ⟨rfl, bw⟩
  · by_cases c4 : op = 4
    · obtain ⟨j, hj, hjl⟩ := h4 c4
      obtain ⟨ba, offa, rfl, k1, k2⟩ := a4 (by omega)
      have n2 := (k2 j hjl).2.2
      have hjl' : (j : Int) < (p.syms.length : Nat) := by omega
      have n2 := (bw.cell (p := ⟨ba, offa + j * 3 + 2, none⟩) k1).trans n2
      have hsr : plSort p ⟨op, ar, nu, sy⟩ = p.syms[j].sort := by
        unfold plSort plSymAt
        rw [if_pos c4, hj]
        simp [hjl]
      rw [hsr]
      clear hsr h4 h9 c3 hlo hhi Hx
      subst c4 hj
      obtain ⟨y0, -, -, -, y4⟩ := qy
      obtain ⟨z0, z1, -, -⟩ := q1'
      clear a4 k2 hargs Hr ih
      generalize p.syms[j].sort = so at *
      go_enter Tryz.func20, Tryz.ntmps20
      go_wp2
      go_ret
      exact ⟨rfl, bw⟩
    · by_cases c9 : op = 9
      · obtain ⟨hl1, j, hj, hjk⟩ := h9 c9
        obtain ⟨pc', cc', e, i1, i2, i3, i4⟩ := hargs
        cases e
        obtain ⟨bc, offc, rfl, o1, o2⟩ := i4 (by omega)
        have n1 := o2 1 hl1
        rw [hj] at n1
        have n1 := (bw.cell (p := ⟨bc, offc + 1, none⟩) o1).trans n1
        have hl1' : (1 : Int) < (ar.length : Nat) := by omega
        have hih := fun W (hW : Below w.heap.size w W) => ih j hjk _ W (Hr.out.below hW) (by omega)
        have Hih := hid hih
        have hsr : plSort p ⟨op, ar, nu, sy⟩ = plSortAt p (j : Nat) := by
          unfold plSort
          rw [if_neg c4, if_pos c9, List.getElem?_eq_getElem hl1, hj]
          rfl
        rw [hsr]
        clear hsr h4 h9 c3 c4 hlo hhi Hx
        subst c9
        obtain ⟨y0, y1, -, -, -⟩ := qy
        obtain ⟨z0, z1, -, -⟩ := q1'
        clear o2 i4 Hr ih hj hih a4 i3
        go_enter Tryz.func20, Tryz.ntmps20
        go_upto_region 10 with fail
        generalize hW : ((w.alloc (.cells #[.slice pa p.syms.length ca, .slice (some ⟨bb, off, none⟩) p.terms.length cb] 25)).alloc (.cells #[.int .i64 9, .slice (some ⟨bc, offc, none⟩) ar.length cc, .bool b, .slice pm nm cm, .int .i64 sy] 71)) = W2 at *
        clear hW
        have hz2 := by_.size
        have HS : Hid (∀ w', Below W2.heap.size W2 w' → w'.cell? ⟨w.heap.size, 0, none⟩ = some (.slice pa p.syms.length ca) ∧ w'.cell? ⟨w.heap.size, 1, none⟩ = some (.slice (some ⟨bb, off, none⟩) p.terms.length cb) ∧ w'.cell? ⟨w.heap.size + 1, 1, none⟩ = some (.slice (some ⟨bc, offc, none⟩) ar.length cc) ∧ w'.cell? ⟨bc, offc + 1, none⟩ = some (.int .i64 (j : Nat))) := hid fun w' hb =>
          ⟨(hb.cell (p := ⟨w.heap.size, 0, none⟩) (World.block_lt_of_cell? _ _ z0)).trans z0, (hb.cell (p := ⟨w.heap.size, 1, none⟩) (World.block_lt_of_cell? _ _ z1)).trans z1, (hb.cell (p := ⟨w.heap.size + 1, 1, none⟩) (World.block_lt_of_cell? _ _ y1)).trans y1, (hb.cell (p := ⟨bc, offc + 1, none⟩) (World.block_lt_of_cell? _ _ n1)).trans n1⟩
        clear z0 z1 y0 y1 n1 m0 m1 m2 m3 m4 q0 q1
        refine wp_region_facts (w0 := W2) 7 0 [28, 29, 30, 31, 32, 33, 4] [undef, undef, undef, undef, undef, undef, .int .i64 0]
          (fun i => match i with | 0 => eqD (.agg #[.slice pa p.syms.length ca, .slice (some ⟨bb, off, none⟩) p.terms.length cb]) | 1 => eqD (.pointer (some ⟨w.heap.size + 1, 1, none⟩)) | 2 => eqD (.slice (some ⟨bc, offc, none⟩) ar.length cc) | 3 => eqD (.pointer (some ⟨bc, offc + 1, none⟩)) | 4 => eqD (.int .i64 (j : Nat)) | 5 => eqD (.int .i64 (plSortAt p (j : Nat))) | _ => eqD (.int .i64 (plSortAt p (j : Nat)))) [] (by kernel_rfl) (by kernel_rfl) (by kernel_rfl) (by kernel_rfl) (by decide) rfl (by kernel_rfl) rfl (by simp) ?he1 ?_ ?_ ?_
        case he1 => simp only [putAll, Act.put, List.setIfInBounds_toArray, List.set_cons_zero, List.set_cons_succ]
        · intro i hi; simp at hi
        · intro i o hi ho vs wx hvl hb hdep K hK
          have hvs := vlen7 hvl
          obtain ⟨s28, s29, s30, s31, s32, s33, s4, rfl⟩ := hvs
          clear hvl
          have hk := HS.out wx hb
          go_split_ands
          rcases i with _ | _ | _ | _ | _ | _ | _ | i
          all_goals (simp only [List.getElem?_toArray, List.getElem?_cons_zero, List.getElem?_cons_succ, Option.some.injEq] at ho)
          all_goals try (subst ho)
          all_goals try simp only [putAll, Act.put, List.setIfInBounds_toArray, List.set_cons_zero, List.set_cons_succ]
          · go_simp
            have hK' := hK.out
            simp only [putAll, Act.put, List.setIfInBounds_toArray, List.set_cons_zero, List.set_cons_succ] at hK'
            exact hK' _ _ rfl (Below.refl _ _) (by simp)
          · go_simp
            have hK' := hK.out
            simp only [putAll, Act.put, List.setIfInBounds_toArray, List.set_cons_zero, List.set_cons_succ] at hK'
            exact hK' _ _ rfl (Below.refl _ _) (by simp)
          · have e1 : s29 = _ := hdep ⟨1, .data⟩ (by simp) rfl
            have e1 := e1.symm
            subst e1
            go_simp
            have hK' := hK.out
            simp only [putAll, Act.put, List.setIfInBounds_toArray, List.set_cons_zero, List.set_cons_succ] at hK'
            exact hK' _ _ rfl (Below.refl _ _) (by simp)
          · have e2 : s30 = _ := hdep ⟨2, .data⟩ (by simp) rfl
            have e2 := e2.symm
            subst e2
            go_simp
            have hK' := hK.out
            simp only [putAll, Act.put, List.setIfInBounds_toArray, List.set_cons_zero, List.set_cons_succ] at hK'
            exact hK' _ _ rfl (Below.refl _ _) (by simp)
          · have e3 : s31 = _ := hdep ⟨3, .data⟩ (by simp) rfl
            have e3 := e3.symm
            subst e3
            go_simp
            have hK' := hK.out
            simp only [putAll, Act.put, List.setIfInBounds_toArray, List.set_cons_zero, List.set_cons_succ] at hK'
            exact hK' _ _ rfl (Below.refl _ _) (by simp)
          · have e0 : s28 = _ := hdep ⟨0, .data⟩ (by simp) rfl
            have e0 := e0.symm
            subst e0
            have e4 : s32 = _ := hdep ⟨4, .data⟩ (by simp) rfl
            have e4 := e4.symm
            subst e4
            go_simp
            go_simp
            refine (Hih.out _ (bel_go hb bw)).mono ?_
            rintro e wy ⟨rfl, hby⟩
            go_wp2_with fail
            have hK' := hK.out
            simp only [putAll, Act.put, List.setIfInBounds_toArray, List.set_cons_zero, List.set_cons_succ] at hK'
            exact hK' _ _ rfl hby (by simp)
          · have e5 : s33 = _ := hdep ⟨5, .data⟩ (by simp) rfl
            have e5 := e5.symm
            subst e5
            go_simp
            have hK' := hK.out
            simp only [putAll, Act.put, List.setIfInBounds_toArray, List.set_cons_zero, List.set_cons_succ] at hK'
            exact hK' _ _ rfl (Below.refl _ _) (by simp)
          · omega
        · intro vs wx hvl hb hf hdist
          have hvs := vlen7 hvl
          obtain ⟨s28, s29, s30, s31, s32, s33, s4, rfl⟩ := hvs
          have f6 : s4 = .int .i64 (plSortAt p (j : Nat)) := hf 6 (by decide)
          subst f6
          clear hf hdist hvl
          refine wpAny_done (by kernel_rfl) ?_ _
          simp only [putAll, Act.put, List.setIfInBounds_toArray, List.set_cons_zero, List.set_cons_succ]
          have hfin := bel_go hb bw
          go_wp2
          go_ret
          exact ⟨rfl, hfin⟩
      · have hsr := plSort_bool p ⟨op, ar, nu, sy⟩ hlo hhi (by show op ≠ 3; omega) c4 c9 (by show op ≠ 12; omega) (by show op ≠ 13; omega)
        rw [hsr]
        obtain ⟨y0, -, -, -, -⟩ := qy
        clear hsr a4 h4 h9 hargs q1' Hr ih
        have d3 : (op == 3) = false := by simp; omega
        have d12 : (op == 12) = false := by simp; omega
        have d13 : (op == 13) = false := by simp; omega
        have d4 : (op == 4) = false := by simp; omega
        have d9 : (op == 9) = false := by simp; omega
        clear c3 c4 c9
        go_enter Tryz.func20, Tryz.ntmps20
        go_wp2
        go_ret
        exact ⟨rfl, bw⟩
end Go.Proofs.YtckkpolikdnilaaGreatDoor
/- elenchusref04.counts. -/
namespace Go.Proofs.YtckkpolikdnilaaGreatDoor
open Go.RowKit Big Go.WideMaps

def plLeast (p : Po) (t : Tm) : Int := if t.op = 4 then (plSymAt p t.sym).arity else (plRu t.op).least
def plMost (p : Po) (t : Tm) : Int := if t.op = 4 then (plSymAt p t.sym).arity else (plRu t.op).most
set_option maxRecDepth 100000 in
set_option maxHeartbeats 12800000 in
theorem counts_any (p : Po) (t : Tm) (v vt : Value) (w : World) (hr : RwIn w v p.syms p.terms) (ht : TmRaw w vt t) (hlo : 1 ≤ t.op) (hhi : t.op ≤ 13) (hs : plNoSym p t = false) :
    Calls Tryz.prog 93 #[v, vt] w (RTwo (plLeast p t) (plMost p t) w) := by
  obtain ⟨va, vb, rfl, hs', ht'⟩ := hr
  obtain ⟨pa, ca, rfl, a1, a2, a3, a4⟩ := hs'
  obtain ⟨pb, cb, rfl, -, -, -, -⟩ := ht'
  obtain ⟨pc, cc, b, pm, nm, cm, rfl, -, -⟩ := ht
  have bx := below1 w (.cells #[.slice pa p.syms.length ca, .slice pb p.terms.length cb] 25)
  have hx0 := heap_alloc_new w (.cells #[.slice pa p.syms.length ca, .slice pb p.terms.length cb] 25)
  have hz := size_alloc w (.cells #[.slice pa p.syms.length ca, .slice pb p.terms.length cb] 25)
  have by_ := below1 (w.alloc (.cells #[.slice pa p.syms.length ca, .slice pb p.terms.length cb] 25)) (.cells #[.int .i64 t.op, .slice pc t.args.length cc, .bool b, .slice pm nm cm, .int .i64 t.sym] 71)
  have hy0 := heap_alloc_new (w.alloc (.cells #[.slice pa p.syms.length ca, .slice pb p.terms.length cb] 25)) (.cells #[.int .i64 t.op, .slice pc t.args.length cc, .bool b, .slice pm nm cm, .int .i64 t.sym] 71)
  rw [hz] at hy0
  have hx1 := (by_.block w.heap.size (by omega)).trans hx0
  have bw := bel_go by_ bx
  have qy := five_cells hy0
  have qx := two_cells hx1
  obtain ⟨y0, -, -, -, y4⟩ := qy
  obtain ⟨z0, -, -, -⟩ := qx
  unfold maxLen at a2
  clear hx0 hy0 hx1 a3 hz by_
  obtain ⟨op, ar, nu, sy⟩ := t
  dsimp only at *
  by_cases c4 : op = 4
  · subst c4
    have hsy : ∃ j : Nat, sy = (j : Nat) ∧ j < p.syms.length := by
      unfold plNoSym at hs
      simp at hs
      exact ⟨sy.toNat, by omega, by omega⟩
    obtain ⟨j, rfl, hjl⟩ := hsy
    obtain ⟨ba, offa, rfl, k1, k2⟩ := a4 (by omega)
    have n1 := (k2 j hjl).2.1
    have n1 := (bw.cell (p := ⟨ba, offa + j * 3 + 1, none⟩) k1).trans n1
    have hjl' : (j : Int) < (p.syms.length : Nat) := by omega
    have hl : plLeast p ⟨4, ar, nu, (j : Nat)⟩ = p.syms[j].arity := by unfold plLeast plSymAt; simp [hjl]
    have hm : plMost p ⟨4, ar, nu, (j : Nat)⟩ = p.syms[j].arity := by unfold plMost plSymAt; simp [hjl]
    rw [hl, hm]
    clear hl hm k2 a4 hs bx
    generalize p.syms[j].arity = n at *
    go_enter Tryz.func93, Tryz.ntmps93
    go_wp2_with fail
    go_quiet (fail)
    go_wp2
    go_ret2
    exact ⟨rfl, below_drewN bw _⟩
  · clear a4 hs bx z0
    have hc : op = 1 ∨ op = 2 ∨ op = 3 ∨ op = 5 ∨ op = 6 ∨ op = 7 ∨ op = 8 ∨ op = 9 ∨ op = 10 ∨ op = 11 ∨ op = 12 ∨ op = 13 := by omega
    clear hlo hhi c4
    rcases hc with rfl | rfl | rfl | rfl | rfl | rfl | rfl | rfl | rfl | rfl | rfl | rfl
    all_goals
      go_enter Tryz.func93, Tryz.ntmps93
      go_wp2
      go_ret2
      exact ⟨rfl, bw⟩
end Go.Proofs.YtckkpolikdnilaaGreatDoor
/- elenchusref04.CheckTerm. -/
namespace Go.Proofs.YtckkpolikdnilaaGreatDoor
open Go.RowKit Big Go.WideMaps

theorem wrong_form {p : Po} {t : Tm} (h : plBadForm t = true) : plWrong p t = 6 := by unfold plWrong; rw [if_pos h]
theorem wrong_sym {p : Po} {t : Tm} (h : plBadForm t = false) (h1 : plNoSym p t = true) : plWrong p t = 7 := by unfold plWrong; rw [if_neg (by simp [h]), if_pos h1]
theorem wrong_part {p : Po} {t : Tm} (h : plBadForm t = false) (h1 : plNoSym p t = false) (h2 : plNoPart p t = true) : plWrong p t = 1 := by unfold plWrong; rw [if_neg (by simp [h]), if_neg (by simp [h1]), if_pos h2]
theorem wrong_count {p : Po} {t : Tm} (h : plBadForm t = false) (h1 : plNoSym p t = false) (h2 : plNoPart p t = false) (h3 : plBadCount p t = true) : plWrong p t = 9 := by unfold plWrong; rw [if_neg (by simp [h]), if_neg (by simp [h1]), if_neg (by simp [h2]), if_pos h3]
theorem wrong_sort {p : Po} {t : Tm} (h : plBadForm t = false) (h1 : plNoSym p t = false) (h2 : plNoPart p t = false) (h3 : plBadCount p t = false) (h4 : plBadSort p t = true) : plWrong p t = 8 := by unfold plWrong; rw [if_neg (by simp [h]), if_neg (by simp [h1]), if_neg (by simp [h2]), if_neg (by simp [h3]), if_pos h4]
theorem wrong_none {p : Po} {t : Tm} (h : plBadForm t = false) (h1 : plNoSym p t = false) (h2 : plNoPart p t = false) (h3 : plBadCount p t = false) (h4 : plBadSort p t = false) : plWrong p t = 0 := by unfold plWrong; rw [if_neg (by simp [h]), if_neg (by simp [h1]), if_neg (by simp [h2]), if_neg (by simp [h3]), if_neg (by simp [h4])]
/-- the reference's first two tests, in its words -/
def rfForm (t : Tm) : Bool := (t.op != 3 && t.op != 13 && t.num.sign != 0) || (t.op != 4 && t.sym != 0)
theorem rule_out {op : Int} (h : ¬ (1 ≤ op ∧ op ≤ 13)) : plRule op = none := by
  unfold plRule
  rw [if_neg (by omega), if_neg (by omega), if_neg (by omega), if_neg (by omega), if_neg (by omega), if_neg (by omega), if_neg (by omega), if_neg (by omega), if_neg (by omega), if_neg (by omega)]
theorem sign_ne (z : Int) : (z.sign != 0) = (z != 0) := by
  rcases Int.lt_trichotomy z 0 with h | h | h
  · rw [Int.sign_eq_neg_one_of_neg h]; simp; omega
  · rw [h]; rfl
  · rw [Int.sign_eq_one_of_pos h]; simp; omega
theorem badForm_in {t : Tm} (h0 : 1 ≤ t.op) (h1 : t.op ≤ 13) : plBadForm t = rfForm t := by
  unfold plBadForm rfForm
  rw [sign_ne]
  have hc : t.op = 1 ∨ t.op = 2 ∨ t.op = 3 ∨ t.op = 4 ∨ t.op = 5 ∨ t.op = 6 ∨ t.op = 7 ∨ t.op = 8 ∨ t.op = 9 ∨ t.op = 10 ∨ t.op = 11 ∨ t.op = 12 ∨ t.op = 13 := by omega
  rcases hc with h | h | h | h | h | h | h | h | h | h | h | h | h <;> rw [h] <;> simp [plRu, plRule]
theorem badForm_out {t : Tm} (h : ¬ (1 ≤ t.op ∧ t.op ≤ 13)) : plBadForm t = true := by
  unfold plBadForm
  rw [rule_out h]
  rfl
theorem badCount_eq (p : Po) (t : Tm) : plBadCount p t = (decide ((t.args.length : Int) < plLeast p t) || decide (plMost p t < (t.args.length : Int))) := by
  unfold plBadCount plLeast plMost
  split
  · rw [Bool.eq_iff_iff]; simp; omega
  · rfl
/-- what the reference wants of the part at place i -/
def rfWant (p : Po) (t : Tm) (i : Nat) : Int := if t.op = 4 ∨ t.op = 10 ∨ t.op = 11 ∨ t.op = 12 ∨ t.op = 13 then 2 else if t.op = 9 ∧ 0 < i then plSortAt p (t.args[1]?.getD 0) else 1
theorem want_eq (p : Po) (t : Tm) (i : Nat) (h0 : 1 ≤ t.op) (h1 : t.op ≤ 13) (hc : plBadCount p t = false) (hi : i < t.args.length) : plPart p t i = rfWant p t i := by
  unfold plPart rfWant
  have hn : ¬ (t.op = 1 ∨ t.op = 2 ∨ t.op = 3) := fun h => by
    unfold plBadCount at hc
    rw [if_neg (by omega)] at hc
    simp at hc
    have h2 := hc.2
    have : (plRu t.op).most = 0 := by rcases h with h | h | h <;> rw [h] <;> rfl
    omega
  by_cases h9 : t.op = 9
  · rw [h9]
    by_cases hp : 0 < i
    · simp [hp]
    · simp [hp, plRu, plRule]
  · rw [if_neg (fun h => h9 h.1), if_neg (c := t.op = 9 ∧ 0 < i) (fun h => h9 h.1)]
    have hcs : t.op = 4 ∨ t.op = 5 ∨ t.op = 6 ∨ t.op = 7 ∨ t.op = 8 ∨ t.op = 10 ∨ t.op = 11 ∨ t.op = 12 ∨ t.op = 13 := by omega
    rcases hcs with h | h | h | h | h | h | h | h | h <;> rw [h] <;> rfl
end Go.Proofs.YtckkpolikdnilaaGreatDoor
/- elenchusref04.CheckTerm, walked. -/
namespace Go.Proofs.YtckkpolikdnilaaGreatDoor
open Go.RowKit Big Go.WideMaps

theorem part_in {p : Po} {t : Tm} (h : plNoPart p t = false) (i : Nat) (hi : i < t.args.length) : ∃ m : Nat, t.args[i] = (m : Nat) ∧ m < p.terms.length := by
  have h0 : plNoTerm p t.args[i] = false := by
    cases hx : plNoTerm p t.args[i] with
    | false => rfl
    | true =>
      have h2 : plNoPart p t = true := List.any_eq_true.2 ⟨_, List.getElem_mem hi, hx⟩
      rw [h] at h2
      cases h2
  unfold plNoTerm at h0
  simp at h0
  exact ⟨t.args[i].toNat, by omega, by omega⟩
set_option maxRecDepth 100000 in
set_option maxHeartbeats 25600000 in
theorem CheckTerm_any (p : Po) (hp : PoGood p) (t : Tm) (v vt : Value) (w : World) (hr : RwIn w v p.syms p.terms) (ht : TmRaw w vt t) :
    Calls Tryz.prog 66 #[v, vt] w (RNum .i64 (plWrong p t) w) := by
  have Hr := hid hr
  have Ht := hid ht
  obtain ⟨va, vb, rfl, hs', ht'⟩ := hr
  obtain ⟨pa, ca, rfl, a1, a2, a3, a4⟩ := hs'
  obtain ⟨pb, cb, rfl, -, b2, -, -⟩ := ht'
  obtain ⟨pc, cc, b, pm, nm, cm, rfl, hargs, hnum⟩ := ht
  have hsg := fun W (hW : Below w.heap.size w W) => RSign_any (.agg #[.bool b, .slice pm nm cm]) t.num W (hnum.below hW)
  have bx := below1 w (.cells #[.slice pa p.syms.length ca, .slice pb p.terms.length cb] 25)
  have hx0 := heap_alloc_new w (.cells #[.slice pa p.syms.length ca, .slice pb p.terms.length cb] 25)
  have hz := size_alloc w (.cells #[.slice pa p.syms.length ca, .slice pb p.terms.length cb] 25)
  have by_ := below1 (w.alloc (.cells #[.slice pa p.syms.length ca, .slice pb p.terms.length cb] 25)) (.cells #[.int .i64 t.op, .slice pc t.args.length cc, .bool b, .slice pm nm cm, .int .i64 t.sym] 71)
  have hy0 := heap_alloc_new (w.alloc (.cells #[.slice pa p.syms.length ca, .slice pb p.terms.length cb] 25)) (.cells #[.int .i64 t.op, .slice pc t.args.length cc, .bool b, .slice pm nm cm, .int .i64 t.sym] 71)
  have hz2 := size_alloc (w.alloc (.cells #[.slice pa p.syms.length ca, .slice pb p.terms.length cb] 25)) (.cells #[.int .i64 t.op, .slice pc t.args.length cc, .bool b, .slice pm nm cm, .int .i64 t.sym] 71)
  rw [hz] at hy0 hz2
  have hx1 := (by_.block w.heap.size (by omega)).trans hx0
  have bw := bel_go by_ bx
  have Hsg := hid hsg
  obtain ⟨r, hrr⟩ : ∃ r, r = plWrong p t := ⟨_, rfl⟩
  rw [← hrr]
  have Hrr := hid hrr
  have Hcn := hid (fun W (hW : Below w.heap.size w W) h0 h1 h2 => counts_any p t _ _ W (Hr.out.below hW) (Ht.out.below hW) h0 h1 h2)
  have Hso := hid (fun k W (hW : Below w.heap.size w W) (hk : k < p.terms.length) => RSort_any p hp k _ W (Hr.out.below hW) hk)
  have hlen := hp.2.1
  clear hsg bx hx0 by_ hnum hrr
  unfold maxLen at a2 b2
  go_enter Tryz.func66, Tryz.ntmps66
  go_upto_region 1 with fail
  generalize hW : ((w.alloc (.cells #[.slice pa p.syms.length ca, .slice pb p.terms.length cb] 25)).alloc (.cells #[.int .i64 t.op, .slice pc t.args.length cc, .bool b, .slice pm nm cm, .int .i64 t.sym] 71)) = W2 at *
  clear hW hz
  have HX := hid hx1; have HY := hid hy0
  obtain ⟨z0, z1, -, -⟩ := two_cells hx1
  obtain ⟨y0, y1, y2, y3, y4⟩ := five_cells hy0
  clear hx1 hy0
  by_cases hop : 1 ≤ t.op ∧ t.op ≤ 13
  case neg =>
    have He := hid (show r = 6 by rw [Hrr.out]; exact wrong_form (badForm_out hop))
    by_cases h1 : t.op < 1
    · clear hop
      go_wp2
      go_ret
      exact ⟨by rw [He.out]; rfl, bw⟩
    · have h2 : 13 < t.op := by omega
      clear hop
      go_wp2
      go_ret
      exact ⟨by rw [He.out]; rfl, bw⟩
  case pos =>
  obtain ⟨hlo, hhi⟩ := hop
  have hbf := badForm_in hlo hhi
  have d1 : ¬ t.op < 1 := by omega
  have d2 : ¬ 13 < t.op := by omega
  go_upto_region 3 with fail
  cases hfm : rfForm t
  case true =>
    have He := hid (show r = 6 by rw [Hrr.out]; exact wrong_form (by rw [hbf, hfm]))
    unfold rfForm at hfm
    cases e3 : (t.op != 3)
    · cases e4 : (t.op != 4)
      · exfalso; rw [e3, e4] at hfm; cases hfm
      · cases e5 : (t.sym != 0)
        · exfalso; rw [e3, e4, e5] at hfm; cases hfm
        · clear hfm hbf
          go_wp2
          go_ret
          exact ⟨by rw [He.out]; rfl, bw⟩
    · cases e13 : (t.op != 13)
      · cases e4 : (t.op != 4)
        · exfalso; rw [e3, e13, e4] at hfm; cases hfm
        · cases e5 : (t.sym != 0)
          · exfalso; rw [e3, e13, e4, e5] at hfm; cases hfm
          · clear hfm hbf
            go_wp2
            go_ret
            exact ⟨by rw [He.out]; rfl, bw⟩
      · cases e6 : (t.num.sign != 0)
        · cases e4 : (t.op != 4)
          · exfalso; rw [e3, e13, e4, e6] at hfm; cases hfm
          · cases e5 : (t.sym != 0)
            · exfalso; rw [e3, e13, e4, e5, e6] at hfm; cases hfm
            · clear hfm hbf
              go_wp2_with fail
              refine (Hsg.out _ bw).mono ?_
              rintro e w3 ⟨rfl, b3⟩
              have y0 := (b3.cell (p := ⟨w.heap.size + 1, 0, none⟩) (by dsimp only; omega)).trans y0
              have y4 := (b3.cell (p := ⟨w.heap.size + 1, 4, none⟩) (by dsimp only; omega)).trans y4
              have bw3 := bel_go b3 bw
              clear z0 z1 y1 y2 y3 b3 bw
              go_wp2
              go_ret
              exact ⟨by rw [He.out]; rfl, bw3⟩
        · clear hfm hbf
          go_wp2_with fail
          refine (Hsg.out _ bw).mono ?_
          rintro e w3 ⟨rfl, b3⟩
          have bw3 := bel_go b3 bw
          clear z0 z1 y0 y1 y2 y3 y4 b3 bw
          go_wp2
          go_ret
          exact ⟨by rw [He.out]; rfl, bw3⟩
  case false =>
  have Hbf := hid (show plBadForm t = false by rw [hbf, hfm])
  have hcls : (t.op = 3 ∨ t.op = 13 ∨ (t.op = 4 ∧ t.num.sign = 0) ∨ ((t.op != 3) = true ∧ (t.op != 13) = true ∧ (t.op != 4) = true ∧ t.num.sign = 0)) ∧ ((t.op != 4) = true → (t.sym != 0) = false) := by
    unfold rfForm at hfm
    by_cases h3 : t.op = 3
    · simp [h3] at hfm ⊢; exact hfm
    · by_cases h13 : t.op = 13
      · simp [h13] at hfm ⊢; exact hfm
      · by_cases h4 : t.op = 4
        · simp [h4] at hfm ⊢; exact hfm
        · simp [h3, h13, h4] at hfm ⊢; exact hfm
  clear hfm hbf d1 d2
  obtain ⟨hcl, hsy⟩ := hcls
  have HZ : Hid (∀ w', Below W2.heap.size W2 w' → w'.cell? ⟨w.heap.size, 0, none⟩ = some (.slice pa p.syms.length ca) ∧ w'.cell? ⟨w.heap.size, 1, none⟩ = some (.slice pb p.terms.length cb) ∧ w'.cell? ⟨w.heap.size + 1, 0, none⟩ = some (.int .i64 t.op) ∧ w'.cell? ⟨w.heap.size + 1, 1, none⟩ = some (.slice pc t.args.length cc) ∧ w'.cell? ⟨w.heap.size + 1, 2, none⟩ = some (.bool b) ∧ w'.cell? ⟨w.heap.size + 1, 3, none⟩ = some (.slice pm nm cm) ∧ w'.cell? ⟨w.heap.size + 1, 4, none⟩ = some (.int .i64 t.sym)) := hid fun w' hb => ⟨(two_cells ((hb.block w.heap.size (by omega)).trans HX.out)).1, (two_cells ((hb.block w.heap.size (by omega)).trans HX.out)).2.1, five_cells ((hb.block (w.heap.size + 1) (by omega)).trans HY.out)⟩
  have HBw := hid bw
  rcases hcl with h3 | h13 | ⟨h4, hs0⟩ | ⟨e3, e13, e4, hs0⟩
  · have e3 : (t.op != 3) = false := by simp [h3]
    have e4 : (t.op != 4) = true := by simp [h3]
    have e5 := hsy e4
    have g4 : (t.op == 4) = false := by simp [h3]
    have Hns := hid (show plNoSym p t = false by unfold plNoSym; rw [g4]; rfl)
    have Hh3 := hid h3
    clear h3
    clear hsy
    go_upto_region 5 with fail
    clear z0 z1 y0 y1 y2 y3 y4 e3 e4 e5
    have Bz := hid (Below.refl W2.heap.size W2)
    obtain ⟨z0, z1, y0, y1, y2, y3, y4⟩ := HZ.out W2 Bz.out
    go_upto_region 7 with fail
    clear z0 z1 y0 y2 y3 y4
    go_wp2_with fail
    go_loopw [63] (fun i wr => ∃ k : Nat, k ≤ t.args.length ∧ i = .int .i64 (k : Nat) ∧ Hid ((t.args.take k).any (plNoTerm p) = false) ∧ Hid (Below W2.heap.size W2 wr)) (fun i _ => t.args.length - (intOf i).toNat)
    case atStart => exact ⟨0, Nat.zero_le _, rfl, hid rfl, hid (Below.refl _ _)⟩
    case round =>
      obtain ⟨k, hk, rfl, hany, Hb⟩ := hrel
      have Hbw := hid (bel_go Hb.out Bz.out)
      by_cases hlt : k < t.args.length
      · have hlt' : (k : Int) < (t.args.length : Nat) := by omega
        obtain ⟨_, _, e, i1, i2, i3, i4⟩ := hargs
        cases e
        obtain ⟨bb, off, rfl, o1, o2⟩ := i4 (by omega)
        have m1 := ((bel_go Hbw.out HBw.out).cell (p := ⟨bb, off + k, none⟩) o1).trans (o2 k hlt)
        have h0 := HZ.out wr Hbw.out
        obtain ⟨-, z1, -, -, -, -, -⟩ := h0
        have Hs1 := hid (any_take_succ (plNoTerm p) t.args k hlt hany.out)
        have Hs2 := hid (any_of_at (plNoTerm p) t.args k hlt)
        unfold maxLen at i2
        clear o2 i4 hany i3
        generalize t.args[k] = x at *
        cases hneg : decide (x < 0)
        · cases hge : decide ((p.terms.length : Int) ≤ x)
          · have hf : plNoTerm p x = false := by unfold plNoTerm; rw [hneg, hge]; rfl
            have Hf := hid hf
            clear hf
            go_wp2_with fail
            go_roundw
            case rel => exact ⟨k + 1, by omega, rfl, hid (Hs1.out Hf.out), Hb⟩
            case measure => simp [intOf]; omega
          · have hf : plNoTerm p x = true := by unfold plNoTerm; rw [hneg, hge]; rfl
            have He := hid (show r = 1 by rw [Hrr.out]; exact wrong_part Hbf.out Hns.out (Hs2.out hf))
            clear hf
            go_wp2_with fail
            go_ret
            exact ⟨by rw [He.out]; rfl, bel_go Hbw.out HBw.out⟩
        · have hf : plNoTerm p x = true := by unfold plNoTerm; rw [hneg]; rfl
          have He := hid (show r = 1 by rw [Hrr.out]; exact wrong_part Hbf.out Hns.out (Hs2.out hf))
          clear hf
          go_wp2_with fail
          go_ret
          exact ⟨by rw [He.out]; rfl, bel_go Hbw.out HBw.out⟩
      · have hkk : k = t.args.length := by omega
        subst hkk
        have Hnp : Hid (plNoPart p t = false) := hid (by have := hany.out; rwa [List.take_length] at this)
        have h0 := HZ.out wr Hbw.out
        obtain ⟨z0, z1, y0, y1, y2, y3, y4⟩ := h0
        clear hany
        go_wp2_with fail
        refine (Hcn.out _ (bel_go Hbw.out HBw.out) hlo hhi Hns.out).mono ?_
        rintro e w5 ⟨rfl, b5⟩
        clear z0 z1 y0 y1 y2 y3 y4
        have Hb5 := hid (bel_go b5 Hbw.out)
        have h0 := HZ.out w5 Hb5.out
        obtain ⟨z0, z1, y0, y1, y2, y3, y4⟩ := h0
        have hbc := badCount_eq p t
        generalize plLeast p t = lst at *
        generalize plMost p t = mst at *
        clear b5 Hb Hbw
        cases e1 : decide ((t.args.length : Int) < lst)
        case true =>
          have He := hid (show r = 9 by rw [Hrr.out]; exact wrong_count Hbf.out Hns.out Hnp.out (by rw [hbc, e1]; rfl))
          clear hbc z0 z1 y0 y2 y3 y4
          go_wp2
          go_ret
          exact ⟨by rw [He.out]; rfl, bel_go Hb5.out HBw.out⟩
        case false =>
        cases e2 : decide (mst < (t.args.length : Int))
        case true =>
          have He := hid (show r = 9 by rw [Hrr.out]; exact wrong_count Hbf.out Hns.out Hnp.out (by rw [hbc, e1, e2]; rfl))
          clear hbc z0 z1 y0 y2 y3 y4
          go_wp2
          go_ret
          exact ⟨by rw [He.out]; rfl, bel_go Hb5.out HBw.out⟩
        case false =>
        have Hbc := hid (show plBadCount p t = false by rw [hbc, e1, e2]; rfl)
        clear hbc
        go_upto_region 16 with fail
        clear z0 z1 y0 y2 y3 y4 e1 e2
        go_wp2_with fail
        clear y1
        go_loopw [98] (fun i wr => ∃ k : Nat, k ≤ t.args.length ∧ i = .int .i64 (k : Nat) ∧ Hid (∀ i (hi : i < t.args.length), i < k → plBadAt p t i t.args[i] = false) ∧ Hid (Below w5.heap.size w5 wr)) (fun i _ => t.args.length - (intOf i).toNat)
        case atStart => exact ⟨0, Nat.zero_le _, rfl, hid (fun i _ h => absurd h (by omega)), hid (Below.refl _ _)⟩
        case round =>
          obtain ⟨k, hk, rfl, Hbad, Hb⟩ := hrel
          have Hbw := hid (bel_go Hb.out Hb5.out)
          by_cases hlt : k < t.args.length
          · have hlt' : (k : Int) < (t.args.length : Nat) := by omega
            obtain ⟨_, _, e, i1, i2, i3, i4⟩ := hargs
            cases e
            obtain ⟨bb, off, rfl, o1, o2⟩ := i4 (by omega)
            have m1 := ((bel_go Hbw.out HBw.out).cell (p := ⟨bb, off + k, none⟩) o1).trans (o2 k hlt)
            have hxm : ∃ m : Nat, t.args[k] = (m : Nat) ∧ m < p.terms.length := part_in Hnp.out k hlt
            obtain ⟨m, hxm, hm⟩ := hxm
            rw [hxm] at m1
            have Hxm := hid hxm
            have Hwe := hid (want_eq p t k hlo hhi Hbc.out hlt)
            unfold maxLen at i2
            clear hxm i3
            exfalso
            have h3 := Hh3.out
            have hq := Hbc.out
            unfold plBadCount at hq
            rw [if_neg (by omega), h3] at hq
            simp only [Bool.or_eq_false_iff, decide_eq_false_iff_not] at hq
            have h2 := hq.2
            rw [show (plRu 3).most = 0 from rfl] at h2
            omega
          · have hkk : k = t.args.length := by omega
            subst hkk
            have He := hid (show r = 0 by rw [Hrr.out]; exact wrong_none Hbf.out Hns.out Hnp.out Hbc.out (badSort_none p t fun i hi => Hbad.out i hi hi))
            go_wp2_with fail
            go_ret
            exact ⟨by rw [He.out]; rfl, bel_go Hbw.out HBw.out⟩
  · have e3 : (t.op != 3) = true := by simp [h13]
    have e13 : (t.op != 13) = false := by simp [h13]
    have e4 : (t.op != 4) = true := by simp [h13]
    have e5 := hsy e4
    have g4 : (t.op == 4) = false := by simp [h13]
    have Hns := hid (show plNoSym p t = false by unfold plNoSym; rw [g4]; rfl)
    have Hh13 := hid h13
    clear h13
    clear hsy
    go_upto_region 5 with fail
    clear z0 z1 y0 y1 y2 y3 y4 e3 e4 e5 e13
    have Bz := hid (Below.refl W2.heap.size W2)
    obtain ⟨z0, z1, y0, y1, y2, y3, y4⟩ := HZ.out W2 Bz.out
    go_upto_region 7 with fail
    clear z0 z1 y0 y2 y3 y4
    go_wp2_with fail
    go_loopw [63] (fun i wr => ∃ k : Nat, k ≤ t.args.length ∧ i = .int .i64 (k : Nat) ∧ Hid ((t.args.take k).any (plNoTerm p) = false) ∧ Hid (Below W2.heap.size W2 wr)) (fun i _ => t.args.length - (intOf i).toNat)
    case atStart => exact ⟨0, Nat.zero_le _, rfl, hid rfl, hid (Below.refl _ _)⟩
    case round =>
      obtain ⟨k, hk, rfl, hany, Hb⟩ := hrel
      have Hbw := hid (bel_go Hb.out Bz.out)
      by_cases hlt : k < t.args.length
      · have hlt' : (k : Int) < (t.args.length : Nat) := by omega
        obtain ⟨_, _, e, i1, i2, i3, i4⟩ := hargs
        cases e
        obtain ⟨bb, off, rfl, o1, o2⟩ := i4 (by omega)
        have m1 := ((bel_go Hbw.out HBw.out).cell (p := ⟨bb, off + k, none⟩) o1).trans (o2 k hlt)
        have h0 := HZ.out wr Hbw.out
        obtain ⟨-, z1, -, -, -, -, -⟩ := h0
        have Hs1 := hid (any_take_succ (plNoTerm p) t.args k hlt hany.out)
        have Hs2 := hid (any_of_at (plNoTerm p) t.args k hlt)
        unfold maxLen at i2
        clear o2 i4 hany i3
        generalize t.args[k] = x at *
        cases hneg : decide (x < 0)
        · cases hge : decide ((p.terms.length : Int) ≤ x)
          · have hf : plNoTerm p x = false := by unfold plNoTerm; rw [hneg, hge]; rfl
            have Hf := hid hf
            clear hf
            go_wp2_with fail
            go_roundw
            case rel => exact ⟨k + 1, by omega, rfl, hid (Hs1.out Hf.out), Hb⟩
            case measure => simp [intOf]; omega
          · have hf : plNoTerm p x = true := by unfold plNoTerm; rw [hneg, hge]; rfl
            have He := hid (show r = 1 by rw [Hrr.out]; exact wrong_part Hbf.out Hns.out (Hs2.out hf))
            clear hf
            go_wp2_with fail
            go_ret
            exact ⟨by rw [He.out]; rfl, bel_go Hbw.out HBw.out⟩
        · have hf : plNoTerm p x = true := by unfold plNoTerm; rw [hneg]; rfl
          have He := hid (show r = 1 by rw [Hrr.out]; exact wrong_part Hbf.out Hns.out (Hs2.out hf))
          clear hf
          go_wp2_with fail
          go_ret
          exact ⟨by rw [He.out]; rfl, bel_go Hbw.out HBw.out⟩
      · have hkk : k = t.args.length := by omega
        subst hkk
        have Hnp : Hid (plNoPart p t = false) := hid (by have := hany.out; rwa [List.take_length] at this)
        have h0 := HZ.out wr Hbw.out
        obtain ⟨z0, z1, y0, y1, y2, y3, y4⟩ := h0
        clear hany
        go_wp2_with fail
        refine (Hcn.out _ (bel_go Hbw.out HBw.out) hlo hhi Hns.out).mono ?_
        rintro e w5 ⟨rfl, b5⟩
        clear z0 z1 y0 y1 y2 y3 y4
        have Hb5 := hid (bel_go b5 Hbw.out)
        have h0 := HZ.out w5 Hb5.out
        obtain ⟨z0, z1, y0, y1, y2, y3, y4⟩ := h0
        have hbc := badCount_eq p t
        generalize plLeast p t = lst at *
        generalize plMost p t = mst at *
        clear b5 Hb Hbw
        cases e1 : decide ((t.args.length : Int) < lst)
        case true =>
          have He := hid (show r = 9 by rw [Hrr.out]; exact wrong_count Hbf.out Hns.out Hnp.out (by rw [hbc, e1]; rfl))
          clear hbc z0 z1 y0 y2 y3 y4
          go_wp2
          go_ret
          exact ⟨by rw [He.out]; rfl, bel_go Hb5.out HBw.out⟩
        case false =>
        cases e2 : decide (mst < (t.args.length : Int))
        case true =>
          have He := hid (show r = 9 by rw [Hrr.out]; exact wrong_count Hbf.out Hns.out Hnp.out (by rw [hbc, e1, e2]; rfl))
          clear hbc z0 z1 y0 y2 y3 y4
          go_wp2
          go_ret
          exact ⟨by rw [He.out]; rfl, bel_go Hb5.out HBw.out⟩
        case false =>
        have Hbc := hid (show plBadCount p t = false by rw [hbc, e1, e2]; rfl)
        clear hbc
        go_upto_region 16 with fail
        clear z0 z1 y0 y2 y3 y4 e1 e2
        go_wp2_with fail
        clear y1
        go_loopw [98] (fun i wr => ∃ k : Nat, k ≤ t.args.length ∧ i = .int .i64 (k : Nat) ∧ Hid (∀ i (hi : i < t.args.length), i < k → plBadAt p t i t.args[i] = false) ∧ Hid (Below w5.heap.size w5 wr)) (fun i _ => t.args.length - (intOf i).toNat)
        case atStart => exact ⟨0, Nat.zero_le _, rfl, hid (fun i _ h => absurd h (by omega)), hid (Below.refl _ _)⟩
        case round =>
          obtain ⟨k, hk, rfl, Hbad, Hb⟩ := hrel
          have Hbw := hid (bel_go Hb.out Hb5.out)
          by_cases hlt : k < t.args.length
          · have hlt' : (k : Int) < (t.args.length : Nat) := by omega
            obtain ⟨_, _, e, i1, i2, i3, i4⟩ := hargs
            cases e
            obtain ⟨bb, off, rfl, o1, o2⟩ := i4 (by omega)
            have m1 := ((bel_go Hbw.out HBw.out).cell (p := ⟨bb, off + k, none⟩) o1).trans (o2 k hlt)
            have hxm : ∃ m : Nat, t.args[k] = (m : Nat) ∧ m < p.terms.length := part_in Hnp.out k hlt
            obtain ⟨m, hxm, hm⟩ := hxm
            rw [hxm] at m1
            have Hxm := hid hxm
            have Hwe := hid (want_eq p t k hlo hhi Hbc.out hlt)
            unfold maxLen at i2
            clear hxm i3
            clear o2 i4
            have h13 := Hh13.out
            have g4 : (t.op == 4) = false := by simp; omega
            have g10 : (t.op == 10) = false := by simp; omega
            have g11 : (t.op == 11) = false := by simp; omega
            have g12 : (t.op == 12) = false := by simp; omega
            have g13 : (t.op == 13) = true := by simp; omega
            have hwant : rfWant p t k = 2 := by unfold rfWant; rw [if_pos (by omega)]
            have Hwant := hid hwant
            clear hwant h13
            have h0 := (HZ.out wr Hbw.out)
            obtain ⟨z0, z1, y0, y1, y2, y3, y4⟩ := h0
            go_upto_region 30 with fail
            clear y0 y1 y2 y3 y4
            go_wp2_with fail
            refine (Hso.out m _ (bel_go Hbw.out HBw.out) hm).mono ?_
            rintro e w6 ⟨rfl, b6⟩
            have HW6 := hid (bel_go b6 Hbw.out)
            have HB6 := hid (Hb.out.trans (b6.mono Hb.out.size))
            clear z0 z1 b6
            cases hne : (plSortAt p (m : Nat) != 2)
            · go_wp2_with fail
              go_roundw
              case rel =>
                refine ⟨k + 1, by omega, rfl, hid fun i hi hik => ?_, HB6⟩
                by_cases hie : i = k
                · subst hie
                  unfold plBadAt
                  rw [Hwe.out, Hxm.out, Hwant.out]
                  exact hne
                · exact Hbad.out i hi (by omega)
              case measure => simp [intOf]; omega
            · have He := hid (show r = 8 by
                rw [Hrr.out]
                exact wrong_sort Hbf.out Hns.out Hnp.out Hbc.out (badSort_of p t k hlt (by unfold plBadAt; rw [Hwe.out, Hxm.out, Hwant.out]; exact hne)))
              go_wp2_with fail
              go_ret
              exact ⟨by rw [He.out]; rfl, bel_go HW6.out HBw.out⟩
          · have hkk : k = t.args.length := by omega
            subst hkk
            have He := hid (show r = 0 by rw [Hrr.out]; exact wrong_none Hbf.out Hns.out Hnp.out Hbc.out (badSort_none p t fun i hi => Hbad.out i hi hi))
            go_wp2_with fail
            go_ret
            exact ⟨by rw [He.out]; rfl, bel_go Hbw.out HBw.out⟩
  · have e3 : (t.op != 3) = true := by simp [h4]
    have e13 : (t.op != 13) = true := by simp [h4]
    have e4 : (t.op != 4) = false := by simp [h4]
    have e6 : (t.num.sign != 0) = false := by simp [hs0]
    have g4 : (t.op == 4) = true := by simp [h4]
    have Hh4 := hid h4
    clear h4
    clear hsy hs0
    go_wp2_with fail
    refine (Hsg.out _ HBw.out).mono ?_
    rintro e wz ⟨rfl, b3⟩
    have Bz := hid b3
    clear z0 z1 y0 y1 y2 y3 y4 b3
    obtain ⟨z0, z1, y0, y1, y2, y3, y4⟩ := HZ.out wz Bz.out
    go_upto_region 5 with fail
    clear e3 e13 e4 e6
    cases hneg : decide (t.sym < 0)
    case true =>
      have He := hid (show r = 7 by rw [Hrr.out]; exact wrong_sym Hbf.out (by unfold plNoSym; rw [g4, hneg]; rfl))
      go_wp2
      go_ret
      exact ⟨by rw [He.out]; rfl, bel_go Bz.out HBw.out⟩
    case false =>
    cases hge : decide ((p.syms.length : Int) ≤ t.sym)
    case true =>
      have He := hid (show r = 7 by rw [Hrr.out]; exact wrong_sym Hbf.out (by unfold plNoSym; rw [g4, hneg, hge]; rfl))
      go_wp2
      go_ret
      exact ⟨by rw [He.out]; rfl, bel_go Bz.out HBw.out⟩
    case false =>
    have Hns := hid (show plNoSym p t = false by unfold plNoSym; rw [g4, hneg, hge]; rfl)
    go_upto_region 7 with fail
    clear z0 z1 y0 y2 y3 y4 hneg hge
    go_wp2_with fail
    go_loopw [63] (fun i wr => ∃ k : Nat, k ≤ t.args.length ∧ i = .int .i64 (k : Nat) ∧ Hid ((t.args.take k).any (plNoTerm p) = false) ∧ Hid (Below wz.heap.size wz wr)) (fun i _ => t.args.length - (intOf i).toNat)
    case atStart => exact ⟨0, Nat.zero_le _, rfl, hid rfl, hid (Below.refl _ _)⟩
    case round =>
      obtain ⟨k, hk, rfl, hany, Hb⟩ := hrel
      have Hbw := hid (bel_go Hb.out Bz.out)
      by_cases hlt : k < t.args.length
      · have hlt' : (k : Int) < (t.args.length : Nat) := by omega
        obtain ⟨_, _, e, i1, i2, i3, i4⟩ := hargs
        cases e
        obtain ⟨bb, off, rfl, o1, o2⟩ := i4 (by omega)
        have m1 := ((bel_go Hbw.out HBw.out).cell (p := ⟨bb, off + k, none⟩) o1).trans (o2 k hlt)
        have h0 := HZ.out wr Hbw.out
        obtain ⟨-, z1, -, -, -, -, -⟩ := h0
        have Hs1 := hid (any_take_succ (plNoTerm p) t.args k hlt hany.out)
        have Hs2 := hid (any_of_at (plNoTerm p) t.args k hlt)
        unfold maxLen at i2
        clear o2 i4 hany i3
        generalize t.args[k] = x at *
        cases hneg : decide (x < 0)
        · cases hge : decide ((p.terms.length : Int) ≤ x)
          · have hf : plNoTerm p x = false := by unfold plNoTerm; rw [hneg, hge]; rfl
            have Hf := hid hf
            clear hf
            go_wp2_with fail
            go_roundw
            case rel => exact ⟨k + 1, by omega, rfl, hid (Hs1.out Hf.out), Hb⟩
            case measure => simp [intOf]; omega
          · have hf : plNoTerm p x = true := by unfold plNoTerm; rw [hneg, hge]; rfl
            have He := hid (show r = 1 by rw [Hrr.out]; exact wrong_part Hbf.out Hns.out (Hs2.out hf))
            clear hf
            go_wp2_with fail
            go_ret
            exact ⟨by rw [He.out]; rfl, bel_go Hbw.out HBw.out⟩
        · have hf : plNoTerm p x = true := by unfold plNoTerm; rw [hneg]; rfl
          have He := hid (show r = 1 by rw [Hrr.out]; exact wrong_part Hbf.out Hns.out (Hs2.out hf))
          clear hf
          go_wp2_with fail
          go_ret
          exact ⟨by rw [He.out]; rfl, bel_go Hbw.out HBw.out⟩
      · have hkk : k = t.args.length := by omega
        subst hkk
        have Hnp : Hid (plNoPart p t = false) := hid (by have := hany.out; rwa [List.take_length] at this)
        have h0 := HZ.out wr Hbw.out
        obtain ⟨z0, z1, y0, y1, y2, y3, y4⟩ := h0
        clear hany
        go_wp2_with fail
        refine (Hcn.out _ (bel_go Hbw.out HBw.out) hlo hhi Hns.out).mono ?_
        rintro e w5 ⟨rfl, b5⟩
        clear z0 z1 y0 y1 y2 y3 y4
        have Hb5 := hid (bel_go b5 Hbw.out)
        have h0 := HZ.out w5 Hb5.out
        obtain ⟨z0, z1, y0, y1, y2, y3, y4⟩ := h0
        have hbc := badCount_eq p t
        generalize plLeast p t = lst at *
        generalize plMost p t = mst at *
        clear b5 Hb Hbw
        cases e1 : decide ((t.args.length : Int) < lst)
        case true =>
          have He := hid (show r = 9 by rw [Hrr.out]; exact wrong_count Hbf.out Hns.out Hnp.out (by rw [hbc, e1]; rfl))
          clear hbc z0 z1 y0 y2 y3 y4
          go_wp2
          go_ret
          exact ⟨by rw [He.out]; rfl, bel_go Hb5.out HBw.out⟩
        case false =>
        cases e2 : decide (mst < (t.args.length : Int))
        case true =>
          have He := hid (show r = 9 by rw [Hrr.out]; exact wrong_count Hbf.out Hns.out Hnp.out (by rw [hbc, e1, e2]; rfl))
          clear hbc z0 z1 y0 y2 y3 y4
          go_wp2
          go_ret
          exact ⟨by rw [He.out]; rfl, bel_go Hb5.out HBw.out⟩
        case false =>
        have Hbc := hid (show plBadCount p t = false by rw [hbc, e1, e2]; rfl)
        clear hbc
        go_upto_region 16 with fail
        clear z0 z1 y0 y2 y3 y4 e1 e2
        go_wp2_with fail
        clear y1
        go_loopw [98] (fun i wr => ∃ k : Nat, k ≤ t.args.length ∧ i = .int .i64 (k : Nat) ∧ Hid (∀ i (hi : i < t.args.length), i < k → plBadAt p t i t.args[i] = false) ∧ Hid (Below w5.heap.size w5 wr)) (fun i _ => t.args.length - (intOf i).toNat)
        case atStart => exact ⟨0, Nat.zero_le _, rfl, hid (fun i _ h => absurd h (by omega)), hid (Below.refl _ _)⟩
        case round =>
          obtain ⟨k, hk, rfl, Hbad, Hb⟩ := hrel
          have Hbw := hid (bel_go Hb.out Hb5.out)
          by_cases hlt : k < t.args.length
          · have hlt' : (k : Int) < (t.args.length : Nat) := by omega
            obtain ⟨_, _, e, i1, i2, i3, i4⟩ := hargs
            cases e
            obtain ⟨bb, off, rfl, o1, o2⟩ := i4 (by omega)
            have m1 := ((bel_go Hbw.out HBw.out).cell (p := ⟨bb, off + k, none⟩) o1).trans (o2 k hlt)
            have hxm : ∃ m : Nat, t.args[k] = (m : Nat) ∧ m < p.terms.length := part_in Hnp.out k hlt
            obtain ⟨m, hxm, hm⟩ := hxm
            rw [hxm] at m1
            have Hxm := hid hxm
            have Hwe := hid (want_eq p t k hlo hhi Hbc.out hlt)
            unfold maxLen at i2
            clear hxm i3
            clear o2 i4
            have h4 := Hh4.out
            have hwant : rfWant p t k = 2 := by unfold rfWant; rw [if_pos (by omega)]
            have Hwant := hid hwant
            clear hwant h4
            have h0 := (HZ.out wr Hbw.out)
            obtain ⟨z0, z1, y0, y1, y2, y3, y4⟩ := h0
            go_upto_region 30 with fail
            clear y0 y1 y2 y3 y4
            go_wp2_with fail
            refine (Hso.out m _ (bel_go Hbw.out HBw.out) hm).mono ?_
            rintro e w6 ⟨rfl, b6⟩
            have HW6 := hid (bel_go b6 Hbw.out)
            have HB6 := hid (Hb.out.trans (b6.mono Hb.out.size))
            clear z0 z1 b6
            cases hne : (plSortAt p (m : Nat) != 2)
            · go_wp2_with fail
              go_roundw
              case rel =>
                refine ⟨k + 1, by omega, rfl, hid fun i hi hik => ?_, HB6⟩
                by_cases hie : i = k
                · subst hie
                  unfold plBadAt
                  rw [Hwe.out, Hxm.out, Hwant.out]
                  exact hne
                · exact Hbad.out i hi (by omega)
              case measure => simp [intOf]; omega
            · have He := hid (show r = 8 by
                rw [Hrr.out]
                exact wrong_sort Hbf.out Hns.out Hnp.out Hbc.out (badSort_of p t k hlt (by unfold plBadAt; rw [Hwe.out, Hxm.out, Hwant.out]; exact hne)))
              go_wp2_with fail
              go_ret
              exact ⟨by rw [He.out]; rfl, bel_go HW6.out HBw.out⟩
          · have hkk : k = t.args.length := by omega
            subst hkk
            have He := hid (show r = 0 by rw [Hrr.out]; exact wrong_none Hbf.out Hns.out Hnp.out Hbc.out (badSort_none p t fun i hi => Hbad.out i hi hi))
            go_wp2_with fail
            go_ret
            exact ⟨by rw [He.out]; rfl, bel_go Hbw.out HBw.out⟩
  · have e5 := hsy e4
    have e6 : (t.num.sign != 0) = false := by simp [hs0]
    have g4 : (t.op == 4) = false := by simpa [bne] using e4
    have g13 : (t.op == 13) = false := by simpa [bne] using e13
    have Hns := hid (show plNoSym p t = false by unfold plNoSym; rw [g4]; rfl)
    have n3 : t.op ≠ 3 := by simpa using e3
    have n13 : t.op ≠ 13 := by simpa using e13
    have n4 : t.op ≠ 4 := by simpa using e4
    have Nx := hid (And.intro n3 (And.intro n13 n4))
    clear n3 n13 n4
    clear hsy hs0
    go_wp2_with fail
    refine (Hsg.out _ HBw.out).mono ?_
    rintro e wz ⟨rfl, b3⟩
    have Bz := hid b3
    clear z0 z1 y0 y1 y2 y3 y4 b3
    obtain ⟨z0, z1, y0, y1, y2, y3, y4⟩ := HZ.out wz Bz.out
    go_upto_region 5 with fail
    clear e3 e13 e4 e5 e6
    go_upto_region 7 with fail
    clear z0 z1 y0 y2 y3 y4
    go_wp2_with fail
    go_loopw [63] (fun i wr => ∃ k : Nat, k ≤ t.args.length ∧ i = .int .i64 (k : Nat) ∧ Hid ((t.args.take k).any (plNoTerm p) = false) ∧ Hid (Below wz.heap.size wz wr)) (fun i _ => t.args.length - (intOf i).toNat)
    case atStart => exact ⟨0, Nat.zero_le _, rfl, hid rfl, hid (Below.refl _ _)⟩
    case round =>
      obtain ⟨k, hk, rfl, hany, Hb⟩ := hrel
      have Hbw := hid (bel_go Hb.out Bz.out)
      by_cases hlt : k < t.args.length
      · have hlt' : (k : Int) < (t.args.length : Nat) := by omega
        obtain ⟨_, _, e, i1, i2, i3, i4⟩ := hargs
        cases e
        obtain ⟨bb, off, rfl, o1, o2⟩ := i4 (by omega)
        have m1 := ((bel_go Hbw.out HBw.out).cell (p := ⟨bb, off + k, none⟩) o1).trans (o2 k hlt)
        have h0 := HZ.out wr Hbw.out
        obtain ⟨-, z1, -, -, -, -, -⟩ := h0
        have Hs1 := hid (any_take_succ (plNoTerm p) t.args k hlt hany.out)
        have Hs2 := hid (any_of_at (plNoTerm p) t.args k hlt)
        unfold maxLen at i2
        clear o2 i4 hany i3
        generalize t.args[k] = x at *
        cases hneg : decide (x < 0)
        · cases hge : decide ((p.terms.length : Int) ≤ x)
          · have hf : plNoTerm p x = false := by unfold plNoTerm; rw [hneg, hge]; rfl
            have Hf := hid hf
            clear hf
            go_wp2_with fail
            go_roundw
            case rel => exact ⟨k + 1, by omega, rfl, hid (Hs1.out Hf.out), Hb⟩
            case measure => simp [intOf]; omega
          · have hf : plNoTerm p x = true := by unfold plNoTerm; rw [hneg, hge]; rfl
            have He := hid (show r = 1 by rw [Hrr.out]; exact wrong_part Hbf.out Hns.out (Hs2.out hf))
            clear hf
            go_wp2_with fail
            go_ret
            exact ⟨by rw [He.out]; rfl, bel_go Hbw.out HBw.out⟩
        · have hf : plNoTerm p x = true := by unfold plNoTerm; rw [hneg]; rfl
          have He := hid (show r = 1 by rw [Hrr.out]; exact wrong_part Hbf.out Hns.out (Hs2.out hf))
          clear hf
          go_wp2_with fail
          go_ret
          exact ⟨by rw [He.out]; rfl, bel_go Hbw.out HBw.out⟩
      · have hkk : k = t.args.length := by omega
        subst hkk
        have Hnp : Hid (plNoPart p t = false) := hid (by have := hany.out; rwa [List.take_length] at this)
        have h0 := HZ.out wr Hbw.out
        obtain ⟨z0, z1, y0, y1, y2, y3, y4⟩ := h0
        clear hany
        go_wp2_with fail
        refine (Hcn.out _ (bel_go Hbw.out HBw.out) hlo hhi Hns.out).mono ?_
        rintro e w5 ⟨rfl, b5⟩
        clear z0 z1 y0 y1 y2 y3 y4
        have Hb5 := hid (bel_go b5 Hbw.out)
        have h0 := HZ.out w5 Hb5.out
        obtain ⟨z0, z1, y0, y1, y2, y3, y4⟩ := h0
        have hbc := badCount_eq p t
        generalize plLeast p t = lst at *
        generalize plMost p t = mst at *
        clear b5 Hb Hbw
        cases e1 : decide ((t.args.length : Int) < lst)
        case true =>
          have He := hid (show r = 9 by rw [Hrr.out]; exact wrong_count Hbf.out Hns.out Hnp.out (by rw [hbc, e1]; rfl))
          clear hbc z0 z1 y0 y2 y3 y4
          go_wp2
          go_ret
          exact ⟨by rw [He.out]; rfl, bel_go Hb5.out HBw.out⟩
        case false =>
        cases e2 : decide (mst < (t.args.length : Int))
        case true =>
          have He := hid (show r = 9 by rw [Hrr.out]; exact wrong_count Hbf.out Hns.out Hnp.out (by rw [hbc, e1, e2]; rfl))
          clear hbc z0 z1 y0 y2 y3 y4
          go_wp2
          go_ret
          exact ⟨by rw [He.out]; rfl, bel_go Hb5.out HBw.out⟩
        case false =>
        have Hbc := hid (show plBadCount p t = false by rw [hbc, e1, e2]; rfl)
        clear hbc
        go_upto_region 16 with fail
        clear z0 z1 y0 y2 y3 y4 e1 e2
        go_wp2_with fail
        clear y1
        go_loopw [98] (fun i wr => ∃ k : Nat, k ≤ t.args.length ∧ i = .int .i64 (k : Nat) ∧ Hid (∀ i (hi : i < t.args.length), i < k → plBadAt p t i t.args[i] = false) ∧ Hid (Below w5.heap.size w5 wr)) (fun i _ => t.args.length - (intOf i).toNat)
        case atStart => exact ⟨0, Nat.zero_le _, rfl, hid (fun i _ h => absurd h (by omega)), hid (Below.refl _ _)⟩
        case round =>
          obtain ⟨k, hk, rfl, Hbad, Hb⟩ := hrel
          have Hbw := hid (bel_go Hb.out Hb5.out)
          by_cases hlt : k < t.args.length
          · have hlt' : (k : Int) < (t.args.length : Nat) := by omega
            obtain ⟨_, _, e, i1, i2, i3, i4⟩ := hargs
            cases e
            obtain ⟨bb, off, rfl, o1, o2⟩ := i4 (by omega)
            have m1 := ((bel_go Hbw.out HBw.out).cell (p := ⟨bb, off + k, none⟩) o1).trans (o2 k hlt)
            have hxm : ∃ m : Nat, t.args[k] = (m : Nat) ∧ m < p.terms.length := part_in Hnp.out k hlt
            obtain ⟨m, hxm, hm⟩ := hxm
            rw [hxm] at m1
            have Hxm := hid hxm
            have Hwe := hid (want_eq p t k hlo hhi Hbc.out hlt)
            unfold maxLen at i2
            clear hxm i3
            obtain ⟨n3, n13, n4⟩ := Nx.out
            by_cases hw2 : t.op = 10 ∨ t.op = 11 ∨ t.op = 12
            · clear o2 i4
              have hwant : rfWant p t k = 2 := by unfold rfWant; rw [if_pos (by omega)]
              have Hwant := hid hwant
              clear hwant n3 n13 n4
              rcases hw2 with h | h | h
              · have g10 : (t.op == 10) = true := by simp; omega
                clear h
                have h0 := (HZ.out wr Hbw.out)
                obtain ⟨z0, z1, y0, y1, y2, y3, y4⟩ := h0
                go_upto_region 30 with fail
                clear y0 y1 y2 y3 y4
                go_wp2_with fail
                refine (Hso.out m _ (bel_go Hbw.out HBw.out) hm).mono ?_
                rintro e w6 ⟨rfl, b6⟩
                have HW6 := hid (bel_go b6 Hbw.out)
                have HB6 := hid (Hb.out.trans (b6.mono Hb.out.size))
                clear z0 z1 b6
                cases hne : (plSortAt p (m : Nat) != 2)
                · go_wp2_with fail
                  go_roundw
                  case rel =>
                    refine ⟨k + 1, by omega, rfl, hid fun i hi hik => ?_, HB6⟩
                    by_cases hie : i = k
                    · subst hie
                      unfold plBadAt
                      rw [Hwe.out, Hxm.out, Hwant.out]
                      exact hne
                    · exact Hbad.out i hi (by omega)
                  case measure => simp [intOf]; omega
                · have He := hid (show r = 8 by
                    rw [Hrr.out]
                    exact wrong_sort Hbf.out Hns.out Hnp.out Hbc.out (badSort_of p t k hlt (by unfold plBadAt; rw [Hwe.out, Hxm.out, Hwant.out]; exact hne)))
                  go_wp2_with fail
                  go_ret
                  exact ⟨by rw [He.out]; rfl, bel_go HW6.out HBw.out⟩
              · have g10 : (t.op == 10) = false := by simp; omega
                have g11 : (t.op == 11) = true := by simp; omega
                clear h
                have h0 := (HZ.out wr Hbw.out)
                obtain ⟨z0, z1, y0, y1, y2, y3, y4⟩ := h0
                go_upto_region 30 with fail
                clear y0 y1 y2 y3 y4
                go_wp2_with fail
                refine (Hso.out m _ (bel_go Hbw.out HBw.out) hm).mono ?_
                rintro e w6 ⟨rfl, b6⟩
                have HW6 := hid (bel_go b6 Hbw.out)
                have HB6 := hid (Hb.out.trans (b6.mono Hb.out.size))
                clear z0 z1 b6
                cases hne : (plSortAt p (m : Nat) != 2)
                · go_wp2_with fail
                  go_roundw
                  case rel =>
                    refine ⟨k + 1, by omega, rfl, hid fun i hi hik => ?_, HB6⟩
                    by_cases hie : i = k
                    · subst hie
                      unfold plBadAt
                      rw [Hwe.out, Hxm.out, Hwant.out]
                      exact hne
                    · exact Hbad.out i hi (by omega)
                  case measure => simp [intOf]; omega
                · have He := hid (show r = 8 by
                    rw [Hrr.out]
                    exact wrong_sort Hbf.out Hns.out Hnp.out Hbc.out (badSort_of p t k hlt (by unfold plBadAt; rw [Hwe.out, Hxm.out, Hwant.out]; exact hne)))
                  go_wp2_with fail
                  go_ret
                  exact ⟨by rw [He.out]; rfl, bel_go HW6.out HBw.out⟩
              · have g10 : (t.op == 10) = false := by simp; omega
                have g11 : (t.op == 11) = false := by simp; omega
                have g12 : (t.op == 12) = true := by simp; omega
                clear h
                have h0 := (HZ.out wr Hbw.out)
                obtain ⟨z0, z1, y0, y1, y2, y3, y4⟩ := h0
                go_upto_region 30 with fail
                clear y0 y1 y2 y3 y4
                go_wp2_with fail
                refine (Hso.out m _ (bel_go Hbw.out HBw.out) hm).mono ?_
                rintro e w6 ⟨rfl, b6⟩
                have HW6 := hid (bel_go b6 Hbw.out)
                have HB6 := hid (Hb.out.trans (b6.mono Hb.out.size))
                clear z0 z1 b6
                cases hne : (plSortAt p (m : Nat) != 2)
                · go_wp2_with fail
                  go_roundw
                  case rel =>
                    refine ⟨k + 1, by omega, rfl, hid fun i hi hik => ?_, HB6⟩
                    by_cases hie : i = k
                    · subst hie
                      unfold plBadAt
                      rw [Hwe.out, Hxm.out, Hwant.out]
                      exact hne
                    · exact Hbad.out i hi (by omega)
                  case measure => simp [intOf]; omega
                · have He := hid (show r = 8 by
                    rw [Hrr.out]
                    exact wrong_sort Hbf.out Hns.out Hnp.out Hbc.out (badSort_of p t k hlt (by unfold plBadAt; rw [Hwe.out, Hxm.out, Hwant.out]; exact hne)))
                  go_wp2_with fail
                  go_ret
                  exact ⟨by rw [He.out]; rfl, bel_go HW6.out HBw.out⟩
            · have g10 : (t.op == 10) = false := by simp; omega
              have g11 : (t.op == 11) = false := by simp; omega
              have g12 : (t.op == 12) = false := by simp; omega
              by_cases h9 : t.op = 9
              · have g9 : (t.op == 9) = true := by simp; omega
                by_cases hk0 : 0 < k
                · have hl1 : 1 < t.args.length := by omega
                  obtain ⟨j, hj1, hj⟩ := part_in Hnp.out 1 hl1
                  have n1 := ((bel_go Hbw.out HBw.out).cell (p := ⟨bb, off + 1, none⟩) o1).trans (o2 1 hl1)
                  rw [hj1] at n1
                  have hwant : rfWant p t k = plSortAt p (j : Nat) := by unfold rfWant; rw [if_neg (by omega), if_pos ⟨h9, hk0⟩, List.getElem?_eq_getElem hl1, hj1]; rfl
                  have Hwant := hid hwant
                  have hk0' : (0 : Int) < (k : Nat) := by omega
                  have hl1' : (1 : Int) < (t.args.length : Nat) := by omega
                  have HN1 := hid n1
                  have h0 := (HZ.out wr Hbw.out)
                  obtain ⟨z0, z1, y0, y1, y2, y3, y4⟩ := h0
                  clear hwant h9 hw2 o2 i4 n1 hj1 n3 n13 n4
                  go_upto_region 29 with fail
                  have HS : Hid (∀ w', Below wr.heap.size wr w' → (w'.cell? ⟨w.heap.size, 0, none⟩ = some (.slice pa p.syms.length ca) ∧ w'.cell? ⟨w.heap.size, 1, none⟩ = some (.slice pb p.terms.length cb) ∧ w'.cell? ⟨w.heap.size + 1, 0, none⟩ = some (.int .i64 t.op) ∧ w'.cell? ⟨w.heap.size + 1, 1, none⟩ = some (.slice (some ⟨bb, off, none⟩) t.args.length cc) ∧ w'.cell? ⟨w.heap.size + 1, 2, none⟩ = some (.bool b) ∧ w'.cell? ⟨w.heap.size + 1, 3, none⟩ = some (.slice pm nm cm) ∧ w'.cell? ⟨w.heap.size + 1, 4, none⟩ = some (.int .i64 t.sym)) ∧ w'.cell? ⟨bb, off + 1, none⟩ = some (.int .i64 (j : Nat))) := hid fun w' hb => ⟨HZ.out w' (bel_go hb Hbw.out), (hb.cell (p := ⟨bb, off + 1, none⟩) (Nat.lt_of_lt_of_le o1 (bel_go Hbw.out HBw.out).size)).trans HN1.out⟩
                  clear z0 z1 y0 y1 y2 y3 y4 m1
                  refine wp_region_facts (w0 := wr) 7 0 [115, 116, 117, 118, 119, 120, 11] [u115, u116, u117, u118, u119, u120, .int .i64 1]
                    (fun i => match i with | 0 => eqD (.agg #[.slice pa p.syms.length ca, .slice pb p.terms.length cb]) | 1 => eqD (.pointer (some ⟨w.heap.size + 1, 1, none⟩)) | 2 => eqD (.slice (some ⟨bb, off, none⟩) t.args.length cc) | 3 => eqD (.pointer (some ⟨bb, off + 1, none⟩)) | 4 => eqD (.int .i64 (j : Nat)) | 5 => eqD (.int .i64 (plSortAt p (j : Nat))) | _ => eqD (.int .i64 (plSortAt p (j : Nat)))) [] (by kernel_rfl) (by kernel_rfl) (by kernel_rfl) (by kernel_rfl) (by decide) rfl (by kernel_rfl) rfl (by simp) ?he1 ?_ ?_ ?_
                  case he1 => simp only [putAll, Act.put, List.setIfInBounds_toArray, List.set_cons_zero, List.set_cons_succ]
                  · intro i hi; simp at hi
                  · intro i o hi ho vs wx hvl hb hdep K hK
                    have hvs := vlen7 hvl
                    obtain ⟨s115, s116, s117, s118, s119, s120, s11, rfl⟩ := hvs
                    clear hvl
                    have hk := HS.out wx hb
                    go_split_ands
                    rcases i with _ | _ | _ | _ | _ | _ | _ | i
                    all_goals (simp only [List.getElem?_toArray, List.getElem?_cons_zero, List.getElem?_cons_succ, Option.some.injEq] at ho)
                    all_goals try (subst ho)
                    all_goals try simp only [putAll, Act.put, List.setIfInBounds_toArray, List.set_cons_zero, List.set_cons_succ]
                    · go_simp
                      have hK' := hK.out
                      simp only [putAll, Act.put, List.setIfInBounds_toArray, List.set_cons_zero, List.set_cons_succ] at hK'
                      exact hK' _ _ rfl (Below.refl _ _) (by simp)
                    · go_simp
                      have hK' := hK.out
                      simp only [putAll, Act.put, List.setIfInBounds_toArray, List.set_cons_zero, List.set_cons_succ] at hK'
                      exact hK' _ _ rfl (Below.refl _ _) (by simp)
                    · have e1 : s116 = _ := hdep ⟨1, .data⟩ (by simp) rfl
                      have e1 := e1.symm
                      subst e1
                      go_simp
                      have hK' := hK.out
                      simp only [putAll, Act.put, List.setIfInBounds_toArray, List.set_cons_zero, List.set_cons_succ] at hK'
                      exact hK' _ _ rfl (Below.refl _ _) (by simp)
                    · have e2 : s117 = _ := hdep ⟨2, .data⟩ (by simp) rfl
                      have e2 := e2.symm
                      subst e2
                      go_simp
                      have hK' := hK.out
                      simp only [putAll, Act.put, List.setIfInBounds_toArray, List.set_cons_zero, List.set_cons_succ] at hK'
                      exact hK' _ _ rfl (Below.refl _ _) (by simp)
                    · have e3 : s118 = _ := hdep ⟨3, .data⟩ (by simp) rfl
                      have e3 := e3.symm
                      subst e3
                      go_simp
                      have hK' := hK.out
                      simp only [putAll, Act.put, List.setIfInBounds_toArray, List.set_cons_zero, List.set_cons_succ] at hK'
                      exact hK' _ _ rfl (Below.refl _ _) (by simp)
                    · have e0 : s115 = _ := hdep ⟨0, .data⟩ (by simp) rfl
                      have e0 := e0.symm
                      subst e0
                      have e4 : s119 = _ := hdep ⟨4, .data⟩ (by simp) rfl
                      have e4 := e4.symm
                      subst e4
                      go_simp
                      go_simp
                      refine (Hso.out j _ (bel_go (bel_go hb Hbw.out) HBw.out) hj).mono ?_
                      rintro e wy ⟨rfl, hby⟩
                      go_wp2_with fail
                      have hK' := hK.out
                      simp only [putAll, Act.put, List.setIfInBounds_toArray, List.set_cons_zero, List.set_cons_succ] at hK'
                      exact hK' _ _ rfl hby (by simp)
                    · have e5 : s120 = _ := hdep ⟨5, .data⟩ (by simp) rfl
                      have e5 := e5.symm
                      subst e5
                      go_simp
                      have hK' := hK.out
                      simp only [putAll, Act.put, List.setIfInBounds_toArray, List.set_cons_zero, List.set_cons_succ] at hK'
                      exact hK' _ _ rfl (Below.refl _ _) (by simp)
                    · omega
                  · intro vs wx hvl hb hf hdist
                    have hvs := vlen7 hvl
                    obtain ⟨s115, s116, s117, s118, s119, s120, s11, rfl⟩ := hvs
                    have f6 : s11 = .int .i64 (plSortAt p (j : Nat)) := hf 6 (by decide)
                    subst f6
                    clear hf hdist hvl
                    refine wpAny_done (by kernel_rfl) ?_ _
                    simp only [putAll, Act.put, List.setIfInBounds_toArray, List.set_cons_zero, List.set_cons_succ]
                    have Hb9 := hid (Hb.out.trans (hb.mono Hb.out.size))
                    have Hbw9 := hid (bel_go hb Hbw.out)
                    clear Hb Hbw HS hb
                    have Hb := Hb9
                    have Hbw := Hbw9
                    clear Hb9 Hbw9
                    generalize hwx : wx = wr at *
                    clear hwx
                    have h0 := (HZ.out wr Hbw.out)
                    obtain ⟨z0, z1, y0, y1, y2, y3, y4⟩ := h0
                    go_upto_region 30 with fail
                    clear y0 y1 y2 y3 y4
                    go_wp2_with fail
                    refine (Hso.out m _ (bel_go Hbw.out HBw.out) hm).mono ?_
                    rintro e w6 ⟨rfl, b6⟩
                    have HW6 := hid (bel_go b6 Hbw.out)
                    have HB6 := hid (Hb.out.trans (b6.mono Hb.out.size))
                    clear z0 z1 b6
                    cases hne : (plSortAt p (m : Nat) != plSortAt p (j : Nat))
                    · go_wp2_with fail
                      go_roundw
                      case rel =>
                        refine ⟨k + 1, by omega, rfl, hid fun i hi hik => ?_, HB6⟩
                        by_cases hie : i = k
                        · subst hie
                          unfold plBadAt
                          rw [Hwe.out, Hxm.out, Hwant.out]
                          exact hne
                        · exact Hbad.out i hi (by omega)
                      case measure => simp [intOf]; omega
                    · have He := hid (show r = 8 by
                        rw [Hrr.out]
                        exact wrong_sort Hbf.out Hns.out Hnp.out Hbc.out (badSort_of p t k hlt (by unfold plBadAt; rw [Hwe.out, Hxm.out, Hwant.out]; exact hne)))
                      go_wp2_with fail
                      go_ret
                      exact ⟨by rw [He.out]; rfl, bel_go HW6.out HBw.out⟩
                · have hwant : rfWant p t k = 1 := by unfold rfWant; rw [if_neg (by omega), if_neg (by omega)]
                  have Hwant := hid hwant
                  have hk0' : ¬ (0 : Int) < (k : Nat) := by omega
                  clear hwant h9 hw2 o2 i4 n3 n13 n4
                  have h0 := (HZ.out wr Hbw.out)
                  obtain ⟨z0, z1, y0, y1, y2, y3, y4⟩ := h0
                  go_upto_region 30 with fail
                  clear y0 y1 y2 y3 y4
                  go_wp2_with fail
                  refine (Hso.out m _ (bel_go Hbw.out HBw.out) hm).mono ?_
                  rintro e w6 ⟨rfl, b6⟩
                  have HW6 := hid (bel_go b6 Hbw.out)
                  have HB6 := hid (Hb.out.trans (b6.mono Hb.out.size))
                  clear z0 z1 b6
                  cases hne : (plSortAt p (m : Nat) != 1)
                  · go_wp2_with fail
                    go_roundw
                    case rel =>
                      refine ⟨k + 1, by omega, rfl, hid fun i hi hik => ?_, HB6⟩
                      by_cases hie : i = k
                      · subst hie
                        unfold plBadAt
                        rw [Hwe.out, Hxm.out, Hwant.out]
                        exact hne
                      · exact Hbad.out i hi (by omega)
                    case measure => simp [intOf]; omega
                  · have He := hid (show r = 8 by
                      rw [Hrr.out]
                      exact wrong_sort Hbf.out Hns.out Hnp.out Hbc.out (badSort_of p t k hlt (by unfold plBadAt; rw [Hwe.out, Hxm.out, Hwant.out]; exact hne)))
                    go_wp2_with fail
                    go_ret
                    exact ⟨by rw [He.out]; rfl, bel_go HW6.out HBw.out⟩
              · have g9 : (t.op == 9) = false := by simp; omega
                have hwant : rfWant p t k = 1 := by unfold rfWant; rw [if_neg (by omega), if_neg (by omega)]
                have Hwant := hid hwant
                clear hwant h9 hw2 o2 i4 n3 n13 n4
                have h0 := (HZ.out wr Hbw.out)
                obtain ⟨z0, z1, y0, y1, y2, y3, y4⟩ := h0
                go_upto_region 30 with fail
                clear y0 y1 y2 y3 y4
                go_wp2_with fail
                refine (Hso.out m _ (bel_go Hbw.out HBw.out) hm).mono ?_
                rintro e w6 ⟨rfl, b6⟩
                have HW6 := hid (bel_go b6 Hbw.out)
                have HB6 := hid (Hb.out.trans (b6.mono Hb.out.size))
                clear z0 z1 b6
                cases hne : (plSortAt p (m : Nat) != 1)
                · go_wp2_with fail
                  go_roundw
                  case rel =>
                    refine ⟨k + 1, by omega, rfl, hid fun i hi hik => ?_, HB6⟩
                    by_cases hie : i = k
                    · subst hie
                      unfold plBadAt
                      rw [Hwe.out, Hxm.out, Hwant.out]
                      exact hne
                    · exact Hbad.out i hi (by omega)
                  case measure => simp [intOf]; omega
                · have He := hid (show r = 8 by
                    rw [Hrr.out]
                    exact wrong_sort Hbf.out Hns.out Hnp.out Hbc.out (badSort_of p t k hlt (by unfold plBadAt; rw [Hwe.out, Hxm.out, Hwant.out]; exact hne)))
                  go_wp2_with fail
                  go_ret
                  exact ⟨by rw [He.out]; rfl, bel_go HW6.out HBw.out⟩
          · have hkk : k = t.args.length := by omega
            subst hkk
            have He := hid (show r = 0 by rw [Hrr.out]; exact wrong_none Hbf.out Hns.out Hnp.out Hbc.out (badSort_none p t fun i hi => Hbad.out i hi hi))
            go_wp2_with fail
            go_ret
            exact ⟨by rw [He.out]; rfl, bel_go Hbw.out HBw.out⟩
end Go.Proofs.YtckkpolikdnilaaGreatDoor
/- elenchusref01.From: what it tells lies in memory of its own (the proof of XFrom, told more of). -/
namespace Go.Proofs.YtckkpolikdnilaaGreatDoor
open Go.RowKit Big

set_option maxRecDepth 100000 in
set_option maxHeartbeats 3200000 in
theorem From_own (v : Value) (l : List Nat) (w : World) (h : At w .i64 v l) (hs : Small D l) (hlen : l.length ≤ 8796093022208) :
    Calls Tryz.prog 60 #[v] w (ROwn 94 .u64 (dig W (val D l)) w) := by
  have hv0 : val D (strip l) = val D l := by rw [strip_dig D2 hs, val_dig D2]
  have hs' : Small D (strip l) := by rw [strip_dig D2 hs]; exact small_dig D2 _
  have hl' : (strip l).length ≤ 8796093022208 := Nat.le_trans (strip_length l) hlen
  have hlast : strip l = dig D (val D l) := strip_dig D2 hs
  have G := hid (rtrim_any v l w h)
  rw [← hv0] at hlast ⊢
  clear h hlen hs hv0
  generalize strip l = l' at *
  have Hl := hid hlast; clear hlast
  go_enter Tryz.func60, Tryz.ntmps60
  go_wp2_with fail
  refine G.out.mono ?_
  rintro e w' ⟨v', rfl, ⟨p, cap, rfl, a1, a2, a3, a4⟩, rfl⟩
  unfold maxLen at a2
  go_wp2_with fail
  go_loopw [3, 4] (fun o s wr => ∃ (i j : Nat) (L : List Nat), i ≤ l'.length + 3 ∧ Hid (i = 4 * j) ∧ s = .int .i64 (i : Nat) ∧ Own wr w.heap.size 94 .u64 o L ∧ Hid (L.length = j) ∧ j ≤ i ∧ Small W L ∧
      Hid (val W L = val D (l'.take i)) ∧ Below w.heap.size w wr) (fun _ s _ => l'.length + 4 - (intOf s).toNat)
  case atStart => exact ⟨0, 0, [], by omega, rfl, rfl, Own.nil _ _ _ _, rfl, by omega, small_nil _, rfl, Below.refl _ _⟩
  case round =>
    obtain ⟨i, j, L, hi, hij, rfl, hown, hLj, hji, hsl, hv, hbel⟩ := hrel
    by_cases hil : i < l'.length
    · obtain ⟨b, off, rfl, hbb, hcell⟩ := a4 (by omega)
      obtain ⟨x0, hx0⟩ : ∃ x, x = l'[i]?.getD 0 := ⟨_, rfl⟩
      obtain ⟨x1, hx1⟩ : ∃ x, x = l'[i + 1]?.getD 0 := ⟨_, rfl⟩
      obtain ⟨x2, hx2⟩ : ∃ x, x = l'[i + 2]?.getD 0 := ⟨_, rfl⟩
      obtain ⟨x3, hx3⟩ : ∃ x, x = l'[i + 3]?.getD 0 := ⟨_, rfl⟩
      have y0 : x0 < 65536 := by rw [hx0]; exact small_getD hs' (by decide) _
      have y1 : x1 < 65536 := by rw [hx1]; exact small_getD hs' (by decide) _
      have y2 : x2 < 65536 := by rw [hx2]; exact small_getD hs' (by decide) _
      have y3 : x3 < 65536 := by rw [hx3]; exact small_getD hs' (by decide) _
      have cell : ∀ m, i + m < l'.length → wr.cell? ⟨b, off + (i + m), none⟩ = some (.int .i64 (l'[i + m]?.getD 0 : Nat)) := fun m hm => by
        rw [(hbel.cell (p := ⟨b, off + (i + m), none⟩) hbb).trans (hcell (i + m) hm)]; simp [hm]
      have zero : ∀ m, ¬ i + m < l'.length → l'[i + m]?.getD 0 = 0 := fun m hm => by rw [List.getElem?_eq_none (by omega)]; rfl
      have Cell := hid cell
      have Zero := hid zero
      have Hx0 := hid hx0; have Hx1 := hid hx1; have Hx2 := hid hx2; have Hx3 := hid hx3
      clear cell zero hx0 hx1 hx2 hx3 hcell a4
      go_wp2_with fail
      obtain ⟨wo, rfl⟩ : ∃ wo : World, wo = wr := ⟨_, rfl⟩
      go_loopw [5, 6] (fun a s wq => ∃ m : Nat, m ≤ 4 ∧ s = .int .i64 ((m : Int) - 1) ∧ a = .int .u64 (acc x0 x1 x2 x3 m : Nat) ∧ wq = wo) (fun _ s _ => (intOf s + 1).toNat)
      case atStart => exact ⟨4, by omega, rfl, rfl, rfl⟩
      case round =>
        obtain ⟨m, hm, rfl, rfl, rfl⟩ := hrel
        by_cases hm0 : 0 < m
        · rcases (by omega : m = 4 ∨ m = 3 ∨ m = 2 ∨ m = 1) with rfl | rfl | rfl | rfl
          · by_cases hin : i + 3 < l'.length
            · skip
              have c := Cell.out 3 hin
              rw [← Hx3.out] at c
              simp only [acc]
              go_wp2
              go_roundw
              case rel => exact ⟨3, by omega, rfl, num_eq (by first | rfl | omega | (simp only; omega)), by trivial⟩
              case measure => simp [intOf]
            · skip
              have hz : x3 = 0 := by rw [Hx3.out]; exact Zero.out 3 hin
              have Hz := hid hz
              clear hz
              simp only [acc]
              go_wp2
              go_roundw
              case rel => exact ⟨3, by omega, rfl, num_eq (by have := Hz.out; first | omega | (simp only; omega)), by trivial⟩
              case measure => simp [intOf]
          · by_cases hin : i + 2 < l'.length
            · skip
              have c := Cell.out 2 hin
              rw [← Hx2.out] at c
              simp only [acc]
              go_wp2
              go_roundw
              case rel => exact ⟨2, by omega, rfl, num_eq (by first | rfl | omega | (simp only; omega)), by trivial⟩
              case measure => simp [intOf]
            · skip
              have hz : x2 = 0 := by rw [Hx2.out]; exact Zero.out 2 hin
              have Hz := hid hz
              clear hz
              simp only [acc]
              go_wp2
              go_roundw
              case rel => exact ⟨2, by omega, rfl, num_eq (by have := Hz.out; first | omega | (simp only; omega)), by trivial⟩
              case measure => simp [intOf]
          · by_cases hin : i + 1 < l'.length
            · skip
              have c := Cell.out 1 hin
              rw [← Hx1.out] at c
              simp only [acc]
              go_wp2
              go_roundw
              case rel => exact ⟨1, by omega, rfl, num_eq (by first | rfl | omega | (simp only; omega)), by trivial⟩
              case measure => simp [intOf]
            · skip
              have hz : x1 = 0 := by rw [Hx1.out]; exact Zero.out 1 hin
              have Hz := hid hz
              clear hz
              simp only [acc]
              go_wp2
              go_roundw
              case rel => exact ⟨1, by omega, rfl, num_eq (by have := Hz.out; first | omega | (simp only; omega)), by trivial⟩
              case measure => simp [intOf]
          · by_cases hin : i + 0 < l'.length
            · skip
              have c := Cell.out 0 hin
              simp only [Nat.add_zero] at c
              rw [← Hx0.out] at c
              simp only [acc]
              go_wp2
              go_roundw
              case rel => exact ⟨0, by omega, rfl, num_eq (by first | rfl | omega | (simp only; omega)), by trivial⟩
              case measure => simp [intOf]
            · exact absurd hil (by simpa using hin)
        · obtain rfl : m = 0 := by omega
          simp only [acc]
          go_wp2_with (at_builtin; refine wpList_append_at rfl _ _ 42 rfl elemNat w.heap.size _ L rfl (hown.alloc _) _ [((x3 * 65536 + x2) * 65536 + x1) * 65536 + x0] rfl (At.oneI _ _ _ _ _ (by omega)) (by rw [hLj.out]; simp [maxLen]; omega) (by rw [hLj.out]; simp; omega) (by have := hbel.size; simp; omega) ?_; intro v2 w2 ho2 hb2 hs2)
          go_roundw
          case rel => exact ⟨i + 4, j + 1, L ++ [((x3 * 65536 + x2) * 65536 + x1) * 65536 + x0], by omega, by have := hij.out; unfold Hid; omega, by go_num, ho2, by have := hLj.out; unfold Hid; simp; omega, by omega,
            small_snoc hsl (by unfold W; omega), from_step hij.out hLj.out hv.out Hx0.out Hx1.out Hx2.out Hx3.out, (hbel.trans ((below1 _ _).mono hbel.size)).trans hb2⟩
          case measure => simp [intOf]; omega
    · have hv' : Hid (L = dig W (val D l')) := by
        have e := hv.out
        rw [val_take_ge _ _ _ (by omega)] at e
        unfold Hid
        rw [← e]
        refine canon W2 hsl ?_
        by_cases hj0 : j = 0
        · left; exact List.eq_nil_of_length_eq_zero (by rw [hLj.out, hj0])
        · right
          have hne : l' ≠ [] := by
            intro h0; have := hij.out; rw [h0] at hi; simp at hi; omega
          have hlen : l'.length = sz D (val D l') := by unfold sz; rw [← Hl.out]
          have hpos : 0 < val D l' := Nat.pos_of_ne_zero fun e0 => by
            have := Hl.out; rw [e0] at this; exact hne this
          have hp := pow_sz_le D2 hpos
          rw [← hlen] at hp
          rw [e, hLj.out]
          refine Nat.le_trans ?_ hp
          rw [show W ^ (j - 1) = D ^ (4 * (j - 1)) by rw [Nat.pow_mul]; rfl]
          exact Nat.pow_le_pow_right (by decide) (by have := hij.out; omega)
      clear a4 hij hv Hl
      go_wp2
      go_ret
      exact ⟨_, rfl, by rw [← hv'.out]; exact hown, hbel⟩
end Go.Proofs.YtckkpolikdnilaaGreatDoor
/- elenchusref01.Whole: what it tells lies in memory of its own. -/
namespace Go.Proofs.YtckkpolikdnilaaGreatDoor
open Go.RowKit Big

theorem IntOwn.whole {w : World} {B : Nat} {neg : Bool} {n : Nat} {p : Option Addr} {len c : Nat} (h : Own w B 94 .u64 (.slice p len c) (dig W n)) :
    IntOwn w B (.agg #[.bool (neg && decide (0 < len)), .slice p len c]) (sg neg n) := by
  have h2 := IntAt.whole (neg := neg) h.at
  obtain ⟨s, e, -⟩ := h2
  injection e with e
  simp only [Array.mk.injEq, List.cons.injEq, and_true] at e
  obtain ⟨e1, e2⟩ := e
  refine ⟨.slice p len c, by rw [e1], by rw [sg_natAbs]; exact h⟩
set_option maxHeartbeats 800000 in
theorem Whole_own (neg : Bool) (v : Value) (l : List Nat) (w : World) (h : At w .u64 v l) (hs : Small W l) (hlen : l.length ≤ 2199023255552) :
    Calls Tryz.prog 40 #[.bool neg, v] w fun e w' => ∃ v', e = .returned v' ∧ IntOwn w' w.heap.size v' (sg neg (val W l)) ∧ Below w.heap.size w w' := by
  have hd : ∀ o, Calls Tryz.prog 61 #[v] (w.alloc o) (RAt .i64 (dig D (val W l)) (w.alloc o)) := fun o => Digits_any v l _ (h.alloc o) hs hlen
  have hsz : (dig D (val W l)).length ≤ 8796093022208 := by
    have h1 := sz4 (val W l)
    have h2 := sz_val W2 hs
    show sz D (val W l) ≤ _
    omega
  have Hd := hid hd
  have Hsz := hid hsz
  clear hd hsz
  generalize val W l = n at *
  go_enter Tryz.func40, Tryz.ntmps40
  go_wp2_with fail
  refine (Hd.out _).mono ?_
  rintro e w1 ⟨v1, rfl, h1, hb1⟩
  go_wp2_with fail
  refine (From_own v1 _ w1 h1 (small_dig D2 n) Hsz.out).mono ?_
  rintro e w2 ⟨v2, rfl, h2, hb2⟩
  rw [val_dig D2] at h2
  have hpr : Pair w2 w.heap.size 44 := Pair.below (Pair.below (Pair.new ..) hb1) hb2
  obtain ⟨_, _, q0, q1, q2, q3⟩ := hpr.cells
  have z1 : w.heap.size + 1 ≤ w1.heap.size := by have := hb1.size; simp at this; omega
  have bw : Below w.heap.size w w2 := ((below1 _ _).trans (hb1.mono (B' := w.heap.size) (by simp))).trans (hb2.mono (B' := w.heap.size) (by omega))
  have h2 := h2.mono (base' := w.heap.size + 1) z1
  obtain ⟨p, c, rfl, -⟩ := h2.at
  have hI := IntOwn.whole (neg := neg) h2
  have HI := hid hI
  clear hb1 hb2 h1 h2 hI
  generalize (dig W n).length = len at *
  cases neg
  · go_wp2
    exact bodyPost_ret (v := .agg #[.bool false, .slice p len c]) (by simp [results, Tryz.results40, go_sem, q0, q1]) rfl
      ⟨_, rfl, IntOwn.mono (IntOwn.stored (show IntOwn w2 _ _ _ from HI.out) (by omega) _ _) (by omega), Below.stored bw (by omega) _ _⟩
  · by_cases h0 : 0 < len
    · have hx : Hid (decide (0 < len) = true) := by unfold Hid; simpa using h0
      go_wp2
      exact bodyPost_ret (v := .agg #[.bool true, .slice p len c]) (by simp [results, Tryz.results40, go_sem, q0, q1]) rfl
        ⟨_, rfl, (by have := HI.out; rw [hx.out] at this; exact (this.stored (by omega) _ _).mono (by omega)), Below.stored bw (by omega) _ _⟩
    · have hx : Hid (decide (0 < len) = false) := by unfold Hid; simpa using h0
      go_wp2
      exact bodyPost_ret (v := .agg #[.bool false, .slice p len c]) (by simp [results, Tryz.results40, go_sem, q0, q1]) rfl
        ⟨_, rfl, (by have := HI.out; rw [hx.out] at this; exact (this.stored (by omega) _ _).mono (by omega)), Below.stored bw (by omega) _ _⟩
end Go.Proofs.YtckkpolikdnilaaGreatDoor
/- elenchusref04.Same of two terms that are handed in. -/
namespace Go.Proofs.YtckkpolikdnilaaGreatDoor
open Go.RowKit Big Go.WideMaps

set_option maxRecDepth 100000 in
set_option maxHeartbeats 6400000 in
theorem RefSame_any (a b : Tm) (va vb : Value) (w : World) (ha : TmRaw w va a) (hb : TmRaw w vb b) (sa : sz W a.num.natAbs ≤ 549755813888) (sb : sz W b.num.natAbs ≤ 549755813888) :
    Calls Tryz.prog 94 #[va, vb] w (RBool (decide (a = b)) w) := by
  obtain ⟨pa, ca, ba, pm, nm, cm, rfl, hla, hma⟩ := ha
  obtain ⟨pa', ca', ba', pm', nm', cm', rfl, hlb, hmb⟩ := hb
  have hcmp : ∀ W', Below w.heap.size w W' → Calls Tryz.prog 38 #[.agg #[.bool ba, .slice pm nm cm], .agg #[.bool ba', .slice pm' nm' cm']] W' (RNum .i64 (ord a.num b.num) W') := fun W' h => RCmp_any _ _ _ _ W' (hma.below h) (hmb.below h) sa sb
  have Hcmp := hid hcmp
  have b1 := below1 w (.cells #[.int .i64 a.op, .slice pa a.args.length ca, .bool ba, .slice pm nm cm, .int .i64 a.sym] 71)
  have b2 := below1 (w.alloc (.cells #[.int .i64 a.op, .slice pa a.args.length ca, .bool ba, .slice pm nm cm, .int .i64 a.sym] 71)) (.cells #[.int .i64 b.op, .slice pa' b.args.length ca', .bool ba', .slice pm' nm' cm', .int .i64 b.sym] 71)
  have h1 := (b2.block w.heap.size (by simp)).trans (heap_alloc_new w (.cells #[.int .i64 a.op, .slice pa a.args.length ca, .bool ba, .slice pm nm cm, .int .i64 a.sym] 71))
  have h2 := heap_alloc_new (w.alloc (.cells #[.int .i64 a.op, .slice pa a.args.length ca, .bool ba, .slice pm nm cm, .int .i64 a.sym] 71)) (.cells #[.int .i64 b.op, .slice pa' b.args.length ca', .bool ba', .slice pm' nm' cm', .int .i64 b.sym] 71)
  have hs1 := size_alloc w (.cells #[.int .i64 a.op, .slice pa a.args.length ca, .bool ba, .slice pm nm cm, .int .i64 a.sym] 71)
  have hs2 := size_alloc (w.alloc (.cells #[.int .i64 a.op, .slice pa a.args.length ca, .bool ba, .slice pm nm cm, .int .i64 a.sym] 71)) (.cells #[.int .i64 b.op, .slice pa' b.args.length ca', .bool ba', .slice pm' nm' cm', .int .i64 b.sym] 71)
  rw [hs1] at h2 hs2
  have bw := bel_go b2 b1
  have hr : decide (a = b) = (!(a.op != b.op) && !(a.sym != b.sym) && !((a.args.length : Int) != (b.args.length : Int)) && !(a.num != b.num) && decide (a.args = b.args)) := by
    rw [Bool.eq_iff_iff]
    simp
    constructor
    · rintro rfl; simp
    · rintro ⟨⟨⟨⟨e1, e2⟩, -⟩, e4⟩, e5⟩
      cases a; cases b; simp_all
  have hz : (a.num != b.num) = (ord a.num b.num != 0) := by
    by_cases h : a.num = b.num
    · rw [h, ord_eq]; simp
    · have : ord a.num b.num ≠ 0 := by unfold ord; split <;> (try split) <;> omega
      rw [bne_iff_ne.2 this, bne_iff_ne.2 h]
  rw [hz] at hr
  generalize decide (a = b) = r at *
  have Hr := hid hr
  clear hr hz hcmp sa sb hma hmb b1 b2
  go_enter Tryz.func94, Tryz.ntmps94
  go_upto_region 1 with fail
  generalize hW : ((w.alloc (.cells #[.int .i64 a.op, .slice pa a.args.length ca, .bool ba, .slice pm nm cm, .int .i64 a.sym] 71)).alloc (.cells #[.int .i64 b.op, .slice pa' b.args.length ca', .bool ba', .slice pm' nm' cm', .int .i64 b.sym] 71)) = W2 at *
  clear hW hs1
  have Hx := hid (five_cells h1)
  have Hy := hid (five_cells h2)
  obtain ⟨x0, x1, x2, x3, x4⟩ := Hx.out
  obtain ⟨y0, y1, y2, y3, y4⟩ := Hy.out
  clear h1 h2
  obtain ⟨_, _, e, i1, i2, i3, i4⟩ := hla
  cases e
  obtain ⟨_, _, e, k1, k2, k3, k4⟩ := hlb
  cases e
  have Hi := hid i4; have Hk := hid k4
  unfold maxLen at i2 k2
  clear i4 k4 i3 k3
  generalize ord a.num b.num = od at *
  cases e1 : (a.op != b.op)
  case true => (have hr0 : r = false := by rw [Hr.out, e1]; rfl); subst hr0; clear Hr; go_wp2; go_ret; exact ⟨rfl, bw⟩
  cases e2 : (a.sym != b.sym)
  case true => (have hr0 : r = false := by rw [Hr.out, e1, e2]; rfl); subst hr0; clear Hr; go_wp2; go_ret; exact ⟨rfl, bw⟩
  cases e3 : ((a.args.length : Int) != (b.args.length : Int))
  case true => (have hr0 : r = false := by rw [Hr.out, e1, e2, e3]; rfl); subst hr0; clear Hr; go_wp2; go_ret; exact ⟨rfl, bw⟩
  have hlen : a.args.length = b.args.length := by simp at e3; omega
  cases e4 : (od != 0)
  case true =>
    have hr0 : r = false := by rw [Hr.out, e1, e2, e3, e4]; rfl
    subst hr0
    clear Hr
    go_wp2_with (refine (Hcmp.out _ bw).mono ?_; rintro e w4 ⟨rfl, b4⟩)
    go_ret
    exact ⟨rfl, bel_go b4 bw⟩
  have hr1 : r = decide (a.args = b.args) := by rw [Hr.out, e1, e2, e3, e4]; rfl
  have Hr1 := hid hr1
  clear Hr hr1
  go_wp2_with (first | (go_at_call 38; refine (Hcmp.out _ bw).mono ?_; rintro e w4 ⟨rfl, b4⟩; have x1 := (b4.cell (p := ⟨w.heap.size, 1, none⟩) (by dsimp only; omega)).trans x1))
  have Hb4 := hid b4
  have hz4 := b4.size
  clear b4 x0 x2 x3 x4 y0 y1 y2 y3 y4 x1 e1 e2 e3 e4 Hcmp
  go_loopw [38] (fun i wr => ∃ k : Nat, k ≤ a.args.length ∧ i = .int .i64 (k : Nat) ∧ Hid (a.args.take k = b.args.take k) ∧ Hid (Below w4.heap.size w4 wr)) (fun i _ => a.args.length - (intOf i).toNat)
  case atStart => exact ⟨0, Nat.zero_le _, rfl, hid (by simp), hid (Below.refl _ _)⟩
  case round =>
    obtain ⟨k, hk, rfl, htk, Hb⟩ := hrel
    have hb2 : Below W2.heap.size W2 wr := Hb4.out.trans (Hb.out.mono hz4)
    have hbw : Below w.heap.size w wr := bel_go hb2 bw
    by_cases hlt : k < a.args.length
    · have hlt' : (k : Int) < (a.args.length : Nat) := by omega
      have hltb : k < b.args.length := by omega
      obtain ⟨-, x1, -, -, -⟩ := Hx.out
      obtain ⟨-, y1, -, -, -⟩ := Hy.out
      have x1 := (hb2.cell (p := ⟨w.heap.size, 1, none⟩) (by dsimp only; omega)).trans x1
      have y1 := (hb2.cell (p := ⟨w.heap.size + 1, 1, none⟩) (by dsimp only; omega)).trans y1
      obtain ⟨bb, off, rfl, j1, j2⟩ := Hi.out (by omega)
      obtain ⟨bc, off', rfl, o1, o2⟩ := Hk.out (by omega)
      have m1 := (hbw.cell (p := ⟨bb, off + k, none⟩) j1).trans (j2 k hlt)
      have m2 := (hbw.cell (p := ⟨bc, off' + k, none⟩) o1).trans (o2 k hltb)
      have hnx : (a.args[k] != b.args[k]) = false → a.args.take (k + 1) = b.args.take (k + 1) := fun h => by
        rw [List.take_succ_eq_append_getElem hlt, List.take_succ_eq_append_getElem hltb, htk.out, show a.args[k] = b.args[k] by simpa using h]
      have hno : (a.args[k] != b.args[k]) = true → r = false := fun h => by
        rw [Hr1.out]
        simp at h ⊢
        intro e
        exact h (by simp [e])
      have Hnx := hid hnx; have Hno := hid hno
      clear hnx hno j2 o2 Hi Hk Hx Hy htk
      generalize a.args[k] = p1 at *
      generalize b.args[k] = p2 at *
      cases hpp : (p1 != p2)
      · go_wp2_with fail
        go_quiet (fail)
        go_wp2
        go_roundw
        case rel => exact ⟨k + 1, by omega, rfl, hid (Hnx.out (by trivial)), hid (below_drewN Hb.out _)⟩
        case measure => simp [intOf]; omega
      · go_wp2_with fail
        go_quiet (fail)
        go_wp2
        go_ret
        exact ⟨by rw [Hno.out (by trivial)]; rfl, below_drewN hbw _⟩
    · have hkk : k = a.args.length := by omega
      subst hkk
      have he : r = true := by
        rw [Hr1.out]
        have := htk.out
        rw [List.take_length, hlen, List.take_length] at this
        simpa using this
      subst he
      clear Hr1 htk Hi Hk Hx Hy
      go_wp2_with fail
      go_ret
      exact ⟨rfl, hbw⟩
end Go.Proofs.YtckkpolikdnilaaGreatDoor
/- elenchusref04.Find; rows that the reference has made. -/
namespace Go.Proofs.YtckkpolikdnilaaGreatDoor
open Go.RowKit Big Go.WideMaps

theorem findIdx_step (l : List Tm) (t : Tm) (k : Nat) (h : k < l.length) (hn : plFind (l.take k) t = none) : (l[k] = t → plFind l t = some k) ∧ (l[k] ≠ t → plFind (l.take (k + 1)) t = none) := by
  have hn' : ∀ x ∈ l.take k, x ≠ t := by
    unfold plFind at hn
    rw [List.findIdx?_eq_none_iff] at hn
    intro x hx e
    have := hn x hx
    simp [e] at this
  refine ⟨fun e => ?_, fun e => ?_⟩
  · unfold plFind
    rw [List.findIdx?_eq_some_iff_getElem]
    refine ⟨h, by simp [e], fun j hj => ?_⟩
    have : l[j] ∈ l.take k := by
      rw [List.mem_take_iff_getElem]
      exact ⟨j, by omega, rfl⟩
    simpa using hn' _ this
  · unfold plFind
    rw [List.findIdx?_eq_none_iff]
    intro x hx
    rw [List.take_succ_eq_append_getElem h] at hx
    rcases List.mem_append.1 hx with hx | hx
    · simpa using hn' x hx
    · simp at hx; subst hx; simpa using e
def rfFound (l : List Tm) (t : Tm) : Int := match plFind l t with | some k => (k : Nat) | none => -1
set_option maxRecDepth 100000 in
set_option maxHeartbeats 12800000 in
theorem Find_any (s : List Sy) (l : List Tm) (t : Tm) (v vt : Value) (w : World) (hr : RwIn w v s l) (ht : TmRaw w vt t) (hst : sz W t.num.natAbs ≤ 549755813888) (hsl : ∀ x ∈ l, sz W x.num.natAbs ≤ 549755813888) :
    Calls Tryz.prog 67 #[v, vt] w (RNum .i64 (rfFound l t) w) := by
  have Ht := hid ht
  have Hsl := hid hsl
  obtain ⟨va, vb, rfl, hs', ht'⟩ := hr
  have Htl := hid ht'
  obtain ⟨pa, ca, rfl, -, -, -, -⟩ := hs'
  obtain ⟨pb, cb, rfl, b1, b2, -, -⟩ := ht'
  obtain ⟨pc, cc, b, pm, nm, cm, rfl, -, -⟩ := ht
  have bx := below1 w (.cells #[.slice pa s.length ca, .slice pb l.length cb] 25)
  have hx0 := heap_alloc_new w (.cells #[.slice pa s.length ca, .slice pb l.length cb] 25)
  have hz := size_alloc w (.cells #[.slice pa s.length ca, .slice pb l.length cb] 25)
  have by_ := below1 (w.alloc (.cells #[.slice pa s.length ca, .slice pb l.length cb] 25)) (.cells #[.int .i64 t.op, .slice pc t.args.length cc, .bool b, .slice pm nm cm, .int .i64 t.sym] 71)
  have hy0 := heap_alloc_new (w.alloc (.cells #[.slice pa s.length ca, .slice pb l.length cb] 25)) (.cells #[.int .i64 t.op, .slice pc t.args.length cc, .bool b, .slice pm nm cm, .int .i64 t.sym] 71)
  have hz2 := size_alloc (w.alloc (.cells #[.slice pa s.length ca, .slice pb l.length cb] 25)) (.cells #[.int .i64 t.op, .slice pc t.args.length cc, .bool b, .slice pm nm cm, .int .i64 t.sym] 71)
  rw [hz] at hy0 hz2
  have hx1 := (by_.block w.heap.size (by omega)).trans hx0
  have bw := bel_go by_ bx
  clear hsl bx hx0 by_
  unfold maxLen at b2
  go_enter Tryz.func67, Tryz.ntmps67
  go_upto_region 1 with fail
  generalize hW : ((w.alloc (.cells #[.slice pa s.length ca, .slice pb l.length cb] 25)).alloc (.cells #[.int .i64 t.op, .slice pc t.args.length cc, .bool b, .slice pm nm cm, .int .i64 t.sym] 71)) = W2 at *
  clear hW hz
  have HY := hid hy0
  have HBw := hid bw
  obtain ⟨z0, z1, -, -⟩ := two_cells hx1
  clear hx1 hy0 bw
  go_wp2_with fail
  go_loopw [10] (fun i wr => ∃ k : Nat, k ≤ l.length ∧ i = .int .i64 (k : Nat) ∧ Hid (plFind (l.take k) t = none) ∧ Hid (Below W2.heap.size W2 wr)) (fun i _ => l.length - (intOf i).toNat)
  case atStart => exact ⟨0, Nat.zero_le _, rfl, hid rfl, hid (Below.refl _ _)⟩
  case round =>
    obtain ⟨k, hk, rfl, hno, Hb⟩ := hrel
    clear z0 z1
    have Hbw := hid (bel_go Hb.out HBw.out)
    by_cases hlt : k < l.length
    · have hlt' : (k : Int) < (l.length : Nat) := by omega
      obtain ⟨_, _, e5, -, -, -, hc⟩ := Htl.out.below Hbw.out
      cases e5
      obtain ⟨bb, off, rfl, j1, j2⟩ := hc (by omega)
      obtain ⟨c0, c1, c2, c3, c4, m0, m1, m2, m3, m4, hraw⟩ := j2 k hlt
      have hstep := findIdx_step l t k hlt hno.out
      have hsx := Hsl.out l[k] (List.getElem_mem hlt)
      generalize l[k] = x at *
      have Hraw := hid hraw
      obtain ⟨pd, cd, b', pm', nm', cm', ea, -, -⟩ := hraw
      cases ea
      have hsame := fun W (hw : Below wr.heap.size wr W) => RefSame_any x t _ _ W (Hraw.out.below hw) (Ht.out.below (bel_go hw Hbw.out)) hsx hst
      have Hsame := hid hsame
      have Hstep := hid hstep
      have q := five_cells ((Hb.out.block (w.heap.size + 1) (by omega)).trans HY.out)
      obtain ⟨y0, y1, y2, y3, y4⟩ := q
      have bz := below1 wr (.cells #[.int .i64 x.op, .slice pd x.args.length cd, .bool b', .slice pm' nm' cm', .int .i64 x.sym] 71)
      have hsr := Hb.out.size
      have y0 := (bz.cell (p := ⟨w.heap.size + 1, 0, none⟩) (by dsimp only; omega)).trans y0
      have y1 := (bz.cell (p := ⟨w.heap.size + 1, 1, none⟩) (by dsimp only; omega)).trans y1
      have y2 := (bz.cell (p := ⟨w.heap.size + 1, 2, none⟩) (by dsimp only; omega)).trans y2
      have y3 := (bz.cell (p := ⟨w.heap.size + 1, 3, none⟩) (by dsimp only; omega)).trans y3
      have y4 := (bz.cell (p := ⟨w.heap.size + 1, 4, none⟩) (by dsimp only; omega)).trans y4
      clear hc j2 hno hstep hsx hsame Hsl Htl
      go_wp2_with fail
      refine (Hsame.out _ bz).mono ?_
      rintro e w3 ⟨rfl, b3⟩
      have Hb3 := hid (Hb.out.trans ((bel_go b3 bz).mono Hb.out.size))
      clear b3 bz y0 y1 y2 y3 y4
      by_cases hxt : x = t
      · have hd : decide (x = t) = true := by simpa using hxt
        have He := hid (show rfFound l t = (k : Nat) by unfold rfFound; rw [Hstep.out.1 hxt])
        rw [hd]
        clear hxt hd
        go_wp2_with fail
        go_ret
        exact ⟨by rw [He.out]; rfl, bel_go Hb3.out HBw.out⟩
      · have hd : decide (x = t) = false := by simpa using hxt
        have He := hid (Hstep.out.2 hxt)
        rw [hd]
        clear hxt hd
        go_wp2_with fail
        go_roundw
        case rel => exact ⟨k + 1, by omega, rfl, He, Hb3⟩
        case measure => simp [intOf]; omega
    · have hkk : k = l.length := by omega
      subst hkk
      have He := hid (show rfFound l t = -1 by have := hno.out; rw [List.take_length] at this; unfold rfFound; rw [this])
      go_wp2_with fail
      go_ret
      exact ⟨by rw [He.out]; rfl, Hbw.out⟩

/-- a term in a row that the reference has made: its parts' numbers as they came in, its number in memory of its own -/
def RfTm (W0 : World) (B : Nat) (w : World) (t : Tm) (c : List Value) : Prop := ∃ va vn, c = [.int .i64 t.op, va, .bool (decide (t.num < 0)), vn, .int .i64 t.sym] ∧ IAt W0 va t.args ∧ Own w B 94 .u64 vn (dig W t.num.natAbs)
def RfRows (W0 : World) (B : Nat) (w : World) : List Tm → List Value → Prop
  | [], cs => cs = []
  | t :: l, cs => ∃ c r, cs = c ++ r ∧ RfTm W0 B w t c ∧ RfRows W0 B w l r
theorem RfTm.len {W0 w : World} {B : Nat} {t : Tm} {c : List Value} (h : RfTm W0 B w t c) : c.length = 5 := by
  obtain ⟨va, vn, rfl, _⟩ := h; rfl
theorem RfRows.snoc {W0 w : World} {B : Nat} {t : Tm} {c : List Value} : ∀ {l : List Tm} {cs : List Value}, RfRows W0 B w l cs → RfTm W0 B w t c → RfRows W0 B w (l ++ [t]) (cs ++ c)
  | [], _, h, ht => by
    subst h
    exact ⟨c, [], by simp, ht, rfl⟩
  | x :: l, _, ⟨c', r, rfl, hx, hr⟩, ht => ⟨c', r ++ c, by simp, hx, hr.snoc ht⟩
theorem RfRows.at {W0 w : World} {B : Nat} : ∀ {l : List Tm} {cs : List Value}, RfRows W0 B w l cs → ∀ i (h : i < l.length), ∃ c, RfTm W0 B w l[i] c ∧ ∀ j, j < 5 → cs[i * 5 + j]? = c[j]?
  | x :: l, _, ⟨c', r, rfl, hx, hr⟩, 0, _ => ⟨c', hx, fun j hj => by
      rw [Nat.zero_mul, Nat.zero_add, List.getElem?_append_left (by rw [hx.len]; exact hj)]⟩
  | x :: l, _, ⟨c', r, rfl, hx, hr⟩, i + 1, h => by
    obtain ⟨c, hc, hj⟩ := RfRows.at hr i (by simpa using h)
    refine ⟨c, hc, fun j hj' => ?_⟩
    rw [← hj j hj', List.getElem?_append_right (by rw [hx.len]; omega), hx.len]
    congr 1
    omega
/-- such rows stay where words stay -/
theorem RfRows.stays {W0 w w' : World} {B : Nat} (hb : ∀ (k : Nat), (∃ cc : Array Value, w.heap[k]? = some (Obj.cells cc 94 (0, 0))) → w'.heap[k]? = w.heap[k]?) : ∀ {l : List Tm} {cs : List Value}, RfRows W0 B w l cs → RfRows W0 B w' l cs
  | [], _, h => h
  | _ :: _, _, ⟨c', r, e, ⟨va, vn, e2, h1, h2⟩, hr⟩ => ⟨c', r, e, ⟨va, vn, e2, h1, row_stays h2 fun k hk => hb k (row_tag h2 k hk)⟩, hr.stays hb⟩
def RfIn (W0 : World) (B : Nat) (w : World) (v : Value) (l : List Tm) : Prop := ∃ cs, w.ownsRow B 71 5 v l.length cs ∧ RfRows W0 B w l cs
theorem RfIn.stays {W0 w w' : World} {B : Nat} {v : Value} {l : List Tm} (h : RfIn W0 B w v l) (hb : ∀ (k : Nat) (c : Array Value) t, w.heap[k]? = some (Obj.cells c t (0, 0)) → B ≤ k → (t = 94 ∨ v.ownBlock = some k) → w'.heap[k]? = w.heap[k]?) (hw : ∀ (k : Nat) (c : Array Value), w.heap[k]? = some (Obj.cells c 94 (0, 0)) → w'.heap[k]? = w.heap[k]?) : RfIn W0 B w' v l := by
  obtain ⟨cs, h1, h2⟩ := h
  refine ⟨cs, row_stays h1 fun k hk => ?_, h2.stays fun k ⟨cc, hc⟩ => hw k cc hc⟩
  obtain ⟨c, hc⟩ := row_tag h1 k hk
  exact hb k c _ hc (World.ownsRow.lt h1 k hk).1 (.inr hk)
theorem RfIn.below {W0 w w' : World} {B : Nat} {v : Value} {l : List Tm} (h : RfIn W0 B w v l) (hb : Below w.heap.size w w') : RfIn W0 B w' v l := by
  obtain ⟨cs, h1, h2⟩ := h
  exact ⟨cs, ownsRow_later h1 hb, h2.stays fun k ⟨cc, hc⟩ => hb.block k (lt_of_block hc)⟩
theorem RfIn.tms {W0 w : World} {B : Nat} {v : Value} {l : List Tm} (h : RfIn W0 B w v l) (h0 : Below W0.heap.size W0 w) (hs : ∀ t ∈ l, sz W t.num.natAbs ≤ 1099511627776) : TmsIn w v l := by
  obtain ⟨cs, hrow, hr⟩ := h
  obtain ⟨p, cap, rfl, h1, h2, h3, h4⟩ := row_handed (ownsRow_mono hrow (Nat.zero_le _))
  refine ⟨p, cap, rfl, h1, h2, h3, fun hl => ?_⟩
  obtain ⟨b, hp, hb, hc⟩ := h4 hl
  refine ⟨b, 0, hp, hb, fun i hi => ?_⟩
  obtain ⟨c, ⟨va, vn, rfl, k1, k2⟩, hj⟩ := hr.at i hi
  have e0 := hj 0 (by decide); have e1 := hj 1 (by decide); have e2 := hj 2 (by decide); have e3 := hj 3 (by decide); have e4 := hj 4 (by decide)
  refine ⟨_, _, _, _, _, by rw [Nat.zero_add]; exact hc _ _ e0, by rw [Nat.zero_add]; exact hc _ _ e1, by rw [Nat.zero_add]; exact hc _ _ e2, by rw [Nat.zero_add]; exact hc _ _ e3, by rw [Nat.zero_add]; exact hc _ _ e4, ?_⟩
  have k1' := k1.below h0
  obtain ⟨pa, ca, rfl, r1⟩ := id k1'
  have k3 := k2.at
  obtain ⟨pn, cn, rfl, r2⟩ := id k3
  exact ⟨pa, ca, _, pn, _, cn, rfl, k1', IntAt.raw ⟨_, rfl, k3⟩ (hs _ (List.getElem_mem hi))⟩
end Go.Proofs.YtckkpolikdnilaaGreatDoor
/- elenchusref04.Make. -/
namespace Go.Proofs.YtckkpolikdnilaaGreatDoor
open Go.RowKit Big Go.WideMaps

theorem PoGood.make {p : Po} {t : Tm} (h : PoGood p) (hw : plWrong p t = 0) (hl : p.terms.length < 4096) : PoGood ⟨p.syms, p.terms ++ [t], p.sorts ++ [plSort p t]⟩ := by
  obtain ⟨h1, h2, h3, h4⟩ := h
  obtain ⟨w1, w2, w3, w4, w5⟩ := plWrong_zero hw
  have hop : 1 ≤ t.op ∧ t.op ≤ 13 := by
    unfold plBadForm at w1
    simp only [Bool.or_eq_false_iff] at w1
    exact plRule_op w1.1.1
  have old : ∀ (j : Nat), j < p.terms.length → plSortAt ⟨p.syms, p.terms ++ [t], p.sorts ++ [plSort p t]⟩ (j : Nat) = plSortAt p (j : Nat) := fun j hj => by
    unfold plSortAt
    simp only [Int.toNat_natCast]
    rw [List.getElem?_append_left (by omega)]
  have srt : ∀ x : Tm, (x.op = 9 → ∃ (h1 : 1 < x.args.length) (j : Nat), x.args[1] = (j : Nat) ∧ j < p.terms.length) → plSort ⟨p.syms, p.terms ++ [t], p.sorts ++ [plSort p t]⟩ x = plSort p x := fun x hx => by
    unfold plSort
    by_cases e4 : x.op = 4
    · rw [if_pos e4, if_pos e4]; rfl
    · rw [if_neg e4, if_neg e4]
      by_cases e9 : x.op = 9
      · rw [if_pos e9, if_pos e9]
        obtain ⟨k1, j, k2, k3⟩ := hx e9
        rw [List.getElem?_eq_getElem k1, k2]
        exact old j k3
      · rw [if_neg e9, if_neg e9]
  refine ⟨by simp [h1], by simp; omega, h3, fun k hk => ?_⟩
  have hk' : k < p.terms.length + 1 := by simpa using hk
  by_cases hkk : k < p.terms.length
  · have e : (p.terms ++ [t])[k]'hk = p.terms[k] := List.getElem_append_left hkk
    show (((p.terms ++ [t])[k]'hk).op = 4 → _) ∧ _
    rw [e]
    obtain ⟨a1, a2, a3, a4, a5⟩ := h4 k hkk
    refine ⟨a1, a2, a3, a4, ?_⟩
    rw [old k hkk, srt _ (fun h => by obtain ⟨k1, j, k2, k3⟩ := a2 h; exact ⟨k1, j, k2, by omega⟩)]
    exact a5
  · have hke : k = p.terms.length := by omega
    have e : (p.terms ++ [t])[k]'hk = t := by subst hke; simp
    show (((p.terms ++ [t])[k]'hk).op = 4 → _) ∧ _
    rw [e]
    have hite := iteIn_of p t w3 w4
    refine ⟨fun h => ?_, fun h => ?_, hop.1, hop.2, ?_⟩
    · unfold plNoSym at w2
      simp [h] at w2
      exact ⟨t.sym.toNat, by omega, by show _ < p.syms.length; omega⟩
    · obtain ⟨k1, j, k2, k3⟩ := hite h
      exact ⟨k1, j, k2, by omega⟩
    · rw [srt t hite]
      unfold plSortAt
      simp only [Int.toNat_natCast]
      rw [hke, List.getElem?_append_right (by omega), h1]
      simp
def RRf (W0 : World) (B : Nat) (vs vr : Value) (r : Po × Int × Int) (w : World) (e : Ending) (w' : World) : Prop := ∃ vr', e = .returned (.tuple #[.agg #[vs, vr'], .int .i64 r.2.1, .int .i64 r.2.2]) ∧ RfIn W0 B w' vr' r.1.terms ∧ Apart (fun k => vr.ownBlock = some k) w w' ∧ (vr'.ownBlock = vr.ownBlock ∨ ∀ k, vr'.ownBlock = some k → w.heap.size ≤ k)
theorem agg5 {c0 c1 c2 c3 c4 d0 d1 d2 d3 d4 : Value} (e : (Value.agg #[c0, c1, c2, c3, c4]) = .agg #[d0, d1, d2, d3, d4]) : c0 = d0 ∧ c1 = d1 ∧ c2 = d2 ∧ c3 = d3 ∧ c4 = d4 := by
  simpa using e
theorem Apart.setNew {S : Nat → Prop} {a w : World} (h : Apart S a w) {q : Addr} (hq : a.heap.size ≤ q.block) (u : Value) : Apart S a (w.setCell q u) :=
  ⟨h.os, h.tape, h.output, by simpa [World.setCell] using h.size, fun k hk hn => (Below.heap_setCell _ _ _ _ (by omega)).trans (h.block k hk hn)⟩
theorem set2_same {w : World} {g : Nat} {a b : Value} {t : TypeId} (h : w.heap[g]? = some (.cells #[a, b] t (0, 0))) (u0 u1 : Value) :
    ((w.setCell ⟨g, 0, none⟩ u0).setCell ⟨g, 1, none⟩ u1).heap[g]? = some (.cells #[u0, u1] t (0, 0)) := by
  have := heap_setCell_same _ g 1 _ _ u1 (heap_setCell_same w g 0 _ _ u0 h)
  simpa using this
theorem RfIn.setFar {W0 w : World} {B : Nat} {v : Value} {l : List Tm} (h : RfIn W0 B w v l) (a : Addr) (u : Value) (c : Array Value) (t : TypeId) (ha : w.heap[a.block]? = some (.cells c t (0, 0))) (ht : t ≠ 94) (hv : v.ownBlock ≠ some a.block) : RfIn W0 B (w.setCell a u) v l :=
  h.stays (fun k c' t' hc _ hk => Below.heap_setCell _ _ _ _ (fun e => by
    rcases hk with rfl | hk
    · exact tag_ne hc (e ▸ ha) (fun e => ht e.symm) rfl
    · rw [e] at hk; exact hv hk)) (fun k c' hc => Below.heap_setCell _ _ _ _ (fun e => tag_ne hc (e ▸ ha) (fun e => ht e.symm) rfl))
theorem frozen_all {w : World} {g : Nat} {c : Array Value} {t : TypeId} (h : w.heap[g]? = some (.cells c t (0, 0))) (j : Nat) : w.frozen? ⟨g, j, none⟩ = false := frozen_of_row w g j _ _ h
set_option maxRecDepth 100000 in
set_option maxHeartbeats 25600000 in
theorem RMake_any (W0 : World) (B : Nat) (p : Po) (hp : PoGood p) (t : Tm) (vs vr vt : Value) (w : World) (h0 : Below W0.heap.size W0 w) (hB : B ≤ w.heap.size) (hs : SyIn W0 vs p.syms) (hr : RfIn W0 B w vr p.terms) (ht : TmRaw W0 vt t)
    (hst : sz W t.num.natAbs ≤ 549755813888) (hsl : ∀ x ∈ p.terms, sz W x.num.natAbs ≤ 549755813888) :
    Calls Tryz.prog 47 #[.agg #[vs, vr], vt] w (RRf W0 B vs vr (plMake p t) w) := by
  have hsl' : ∀ x ∈ p.terms, sz W x.num.natAbs ≤ 1099511627776 := fun x hx => Nat.le_trans (hsl x hx) (by omega)
  have hrw := fun w' (hb : Below w.heap.size w w') => (show RwIn w' (.agg #[vs, vr]) p.syms p.terms from ⟨_, _, rfl, hs.below (bel_go hb h0), (hr.below hb).tms (bel_go hb h0) hsl'⟩)
  have Hct := hid (fun w' hb => CheckTerm_any p hp t _ vt w' (hrw w' hb) (ht.below (bel_go hb h0)))
  have Hfi := hid (fun w' hb => Find_any p.syms p.terms t _ vt w' (hrw w' hb) (ht.below (bel_go hb h0)) hst hsl)
  have Hrf := hid hr
  have H0 := hid h0
  have hlen := hp.2.1
  obtain ⟨pc, cc, b, pm, nm, cm, rfl, hargs, hnum⟩ := ht
  obtain ⟨pa, ca, rfl, -, -, -, -⟩ := hs
  obtain ⟨cs, hrow, hrr⟩ := hr
  obtain ⟨pb, cb, rfl⟩ := ownsRow_shape hrow
  have Hrow := hid hrow; have Hrr := hid hrr
  obtain ⟨neg, sl, ws, eq1, hat, hsm, hwl, hval⟩ := hnum
  have eq2 : neg = b ∧ sl = .slice pm nm cm := by simpa using eq1.symm
  obtain ⟨rfl, rfl⟩ := eq2
  have hwh := fun w' (hb : Below w.heap.size w w') => Whole_own neg _ ws w' (hat.below (bel_go hb h0)) hsm (by omega)
  rw [← hval] at hwh
  have Hwh := hid hwh
  obtain ⟨r, hrd⟩ : ∃ r, r = plMake p t := ⟨_, rfl⟩
  rw [← hrd]
  have Hrd := hid hrd
  obtain ⟨er, her⟩ : ∃ er, er = plWrong p t := ⟨_, rfl⟩
  have Her := hid her
  rw [← her] at Hct
  obtain ⟨fi, hfi⟩ : ∃ fi, fi = rfFound p.terms t := ⟨_, rfl⟩
  have Hfd := hid hfi
  rw [← hfi] at Hfi
  clear hrw hrr hat hwh hval hrd her hfi eq1 h0 hsl hsl'
  have bx := below1 w (.cells #[.slice pa p.syms.length ca, .slice pb p.terms.length cb] 25)
  have hx0 := heap_alloc_new w (.cells #[.slice pa p.syms.length ca, .slice pb p.terms.length cb] 25)
  have hz := size_alloc w (.cells #[.slice pa p.syms.length ca, .slice pb p.terms.length cb] 25)
  have by_ := below1 (w.alloc (.cells #[.slice pa p.syms.length ca, .slice pb p.terms.length cb] 25)) (.cells #[.int .i64 t.op, .slice pc t.args.length cc, .bool neg, .slice pm nm cm, .int .i64 t.sym] 71)
  have hy0 := heap_alloc_new (w.alloc (.cells #[.slice pa p.syms.length ca, .slice pb p.terms.length cb] 25)) (.cells #[.int .i64 t.op, .slice pc t.args.length cc, .bool neg, .slice pm nm cm, .int .i64 t.sym] 71)
  have hz2 := size_alloc (w.alloc (.cells #[.slice pa p.syms.length ca, .slice pb p.terms.length cb] 25)) (.cells #[.int .i64 t.op, .slice pc t.args.length cc, .bool neg, .slice pm nm cm, .int .i64 t.sym] 71)
  rw [hz] at hy0 hz2
  have hx1 := (by_.block w.heap.size (by omega)).trans hx0
  have bw := bel_go by_ bx
  go_enter Tryz.func47, Tryz.ntmps47
  have bz := below1 ((w.alloc (.cells #[.slice pa p.syms.length ca, .slice pb p.terms.length cb] 25)).alloc (.cells #[.int .i64 t.op, .slice pc t.args.length cc, .bool neg, .slice pm nm cm, .int .i64 t.sym] 71)) (.cells #[.slice none 0 0, .slice none 0 0] 25)
  have hr0 := heap_alloc_new ((w.alloc (.cells #[.slice pa p.syms.length ca, .slice pb p.terms.length cb] 25)).alloc (.cells #[.int .i64 t.op, .slice pc t.args.length cc, .bool neg, .slice pm nm cm, .int .i64 t.sym] 71)) (.cells #[.slice none 0 0, .slice none 0 0] 25)
  have hz3 := size_alloc ((w.alloc (.cells #[.slice pa p.syms.length ca, .slice pb p.terms.length cb] 25)).alloc (.cells #[.int .i64 t.op, .slice pc t.args.length cc, .bool neg, .slice pm nm cm, .int .i64 t.sym] 71)) (.cells #[.slice none 0 0, .slice none 0 0] 25)
  rw [hz2] at hr0 hz3
  have hx3 := (bz.block w.heap.size (by omega)).trans hx1
  have hy3 := (bz.block (w.heap.size + 1) (by omega)).trans hy0
  have bw3 := bel_go bz bw
  go_upto_region 1 with fail
  generalize hW : (((w.alloc (.cells #[.slice pa p.syms.length ca, .slice pb p.terms.length cb] 25)).alloc (.cells #[.int .i64 t.op, .slice pc t.args.length cc, .bool neg, .slice pm nm cm, .int .i64 t.sym] 71)).alloc (.cells #[.slice none 0 0, .slice none 0 0] 25)) = W3 at *
  have q := two_cells hx3
  obtain ⟨z0, z1, -, -⟩ := q
  have q := five_cells hy3
  obtain ⟨y0, y1, y2, y3, y4⟩ := q
  have HX := hid hx3; have HY := hid hy3; have HR := hid hr0; have HB3 := hid bw3
  clear hW bx hx0 hz by_ hy0 hz2 hx1 bw bz hr0 hx3 hy3 bw3
  have back : Hid (∀ w', Below W3.heap.size W3 w' → RfIn W0 B w' (.slice pb p.terms.length cb) p.terms) := hid fun w' hb => (Hrf.out.below HB3.out).below hb
  have far : Hid (∀ u, (Value.slice pb p.terms.length cb).ownBlock = some u → u < w.heap.size) := hid fun u hu => (World.ownsRow.lt Hrow.out u hu).2
  go_wp2_with fail
  refine (Hct.out _ HB3.out).mono ?_
  rintro e w4 ⟨rfl, b4⟩
  clear z0 z1 y0 y1 y2 y3 y4
  have HB4 := hid b4
  clear b4
  have hx4 := (HB4.out.block w.heap.size (by omega)).trans HX.out
  have hy4 := (HB4.out.block (w.heap.size + 1) (by omega)).trans HY.out
  have hr4 := (HB4.out.block (w.heap.size + 2) (by omega)).trans HR.out
  have q := two_cells hx4
  obtain ⟨z0, z1, -, -⟩ := q
  have hz4 := HB4.out.size
  cases he : (er != 0)
  case true =>
    have hne : plWrong p t ≠ 0 := by rw [← Her.out]; simpa using he
    have q := two_cells hr4
    obtain ⟨r0, r1, -, -⟩ := q
    have f0 := frozen_all hr4 0; have f1 := frozen_all hr4 1
    have hr5 := set2_same hr4 (.slice pa p.syms.length ca) (.slice pb p.terms.length cb)
    have HR5 := hid hr5
    have hrd := plMake_bad hne
    have Hfin := hid hrd
    have hin4 := back.out w4 HB4.out
    have hin5 := (hin4.setFar ⟨w.heap.size + 2, 0, none⟩ (.slice pa p.syms.length ca) _ _ hr4 (by decide) (fun e => by have := far.out _ e; simp at this; omega))
    have hr45 := heap_setCell_same w4 (w.heap.size + 2) 0 _ _ (.slice pa p.syms.length ca) hr4
    have Hin5 := hid (hin5.setFar ⟨w.heap.size + 2, 1, none⟩ (.slice pb p.terms.length cb) _ _ hr45 (by decide) (fun e => by have := far.out _ e; simp at this; omega))
    have Hb5 := hid (((bel_go HB4.out HB3.out).setCell (p := ⟨w.heap.size + 2, 0, none⟩) (by show w.heap.size ≤ w.heap.size + 2; omega) (.slice pa p.syms.length ca)).setCell (p := ⟨w.heap.size + 2, 1, none⟩) (by show w.heap.size ≤ w.heap.size + 2; omega) (.slice pb p.terms.length cb))
    clear hx4 hy4 hr4 hr5 hrd hin4 hin5 hr45 hne
    go_wp2
    have q := two_cells HR5.out
    obtain ⟨s0, s1, -, -⟩ := q
    refine bodyPost_ret (v := .tuple #[.agg #[.slice pa p.syms.length ca, .slice pb p.terms.length cb], .int .i64 0, .int .i64 er]) (by simp [results, Tryz.results47, go_sem, s0, s1]) rfl ⟨_, ?_, ?_, Apart.of_below Hb5.out, .inl rfl⟩
    · rw [Hrd.out, Hfin.out, Her.out]
    · rw [Hrd.out, Hfin.out]; exact Hin5.out
  case false =>
  have hez : plWrong p t = 0 := by rw [← Her.out]; simpa using he
  have Hez := hid hez
  have q := five_cells hy4
  obtain ⟨y0, y1, y2, y3, y4⟩ := q
  clear hez
  go_wp2_with fail
  refine (Hfi.out _ (bel_go HB4.out HB3.out)).mono ?_
  rintro e w5 ⟨rfl, b5⟩
  clear z0 z1 y0 y1 y2 y3 y4 hx4 hy4 hr4
  have HB5 := hid (bel_go b5 HB4.out)
  clear b5 HB4
  have hx5 := (HB5.out.block w.heap.size (by omega)).trans HX.out
  have hy5 := (HB5.out.block (w.heap.size + 1) (by omega)).trans HY.out
  have hr5 := (HB5.out.block (w.heap.size + 2) (by omega)).trans HR.out
  have hz5 := HB5.out.size
  have q := two_cells hx5
  obtain ⟨z0, z1, -, -⟩ := q
  cases hf : plFind p.terms t with
  | some k =>
    have hfi : fi = (k : Nat) := by rw [Hfd.out]; unfold rfFound; rw [hf]
    have Hf := hid hf
    clear hf
    subst hfi
    have q := two_cells hr5
    obtain ⟨r0, r1, -, -⟩ := q
    have f0 := frozen_all hr5 0; have f1 := frozen_all hr5 1
    have hr6 := set2_same hr5 (.slice pa p.syms.length ca) (.slice pb p.terms.length cb)
    have HR6 := hid hr6
    have Hfin := hid (plMake_there Hez.out Hf.out)
    have hin5 := back.out w5 HB5.out
    have hin6 := (hin5.setFar ⟨w.heap.size + 2, 0, none⟩ (.slice pa p.syms.length ca) _ _ hr5 (by decide) (fun e => by have := far.out _ e; simp at this; omega))
    have hr56 := heap_setCell_same w5 (w.heap.size + 2) 0 _ _ (.slice pa p.syms.length ca) hr5
    have Hin6 := hid (hin6.setFar ⟨w.heap.size + 2, 1, none⟩ (.slice pb p.terms.length cb) _ _ hr56 (by decide) (fun e => by have := far.out _ e; simp at this; omega))
    have Hb6 := hid (((bel_go HB5.out HB3.out).setCell (p := ⟨w.heap.size + 2, 0, none⟩) (by show w.heap.size ≤ w.heap.size + 2; omega) (.slice pa p.syms.length ca)).setCell (p := ⟨w.heap.size + 2, 1, none⟩) (by show w.heap.size ≤ w.heap.size + 2; omega) (.slice pb p.terms.length cb))
    clear hx5 hy5 hr5 hr6 hin5 hin6 hr56
    go_wp2
    have q := two_cells HR6.out
    obtain ⟨s0, s1, -, -⟩ := q
    refine bodyPost_ret (v := .tuple #[.agg #[.slice pa p.syms.length ca, .slice pb p.terms.length cb], .int .i64 (k : Nat), .int .i64 0]) (by simp [results, Tryz.results47, go_sem, s0, s1]) rfl ⟨_, ?_, ?_, Apart.of_below Hb6.out, .inl rfl⟩
    · rw [Hrd.out, Hfin.out]
    · rw [Hrd.out, Hfin.out]; exact Hin6.out
  | none =>
    have hfi : fi = -1 := by rw [Hfd.out]; unfold rfFound; rw [hf]
    have Hf := hid hf
    clear hf
    subst hfi
    cases hfull : decide ((4096 : Int) ≤ (p.terms.length : Nat))
    case true =>
      have Hfl := hid (show p.terms.length = 4096 by have := of_decide_eq_true hfull; omega)
      have q := two_cells hr5
      obtain ⟨r0, r1, -, -⟩ := q
      have f0 := frozen_all hr5 0; have f1 := frozen_all hr5 1
      have hr6 := set2_same hr5 (.slice pa p.syms.length ca) (.slice pb p.terms.length cb)
      have HR6 := hid hr6
      have Hfin := hid (plMake_full Hez.out Hf.out Hfl.out)
      have hin5 := back.out w5 HB5.out
      have hin6 := (hin5.setFar ⟨w.heap.size + 2, 0, none⟩ (.slice pa p.syms.length ca) _ _ hr5 (by decide) (fun e => by have := far.out _ e; simp at this; omega))
      have hr56 := heap_setCell_same w5 (w.heap.size + 2) 0 _ _ (.slice pa p.syms.length ca) hr5
      have Hin6 := hid (hin6.setFar ⟨w.heap.size + 2, 1, none⟩ (.slice pb p.terms.length cb) _ _ hr56 (by decide) (fun e => by have := far.out _ e; simp at this; omega))
      have Hb6 := hid (((bel_go HB5.out HB3.out).setCell (p := ⟨w.heap.size + 2, 0, none⟩) (by show w.heap.size ≤ w.heap.size + 2; omega) (.slice pa p.syms.length ca)).setCell (p := ⟨w.heap.size + 2, 1, none⟩) (by show w.heap.size ≤ w.heap.size + 2; omega) (.slice pb p.terms.length cb))
      clear hx5 hy5 hr5 hr6 hin5 hin6 hr56
      go_wp2
      have q := two_cells HR6.out
      obtain ⟨s0, s1, -, -⟩ := q
      refine bodyPost_ret (v := .tuple #[.agg #[.slice pa p.syms.length ca, .slice pb p.terms.length cb], .int .i64 0, .int .i64 11]) (by simp [results, Tryz.results47, go_sem, s0, s1]) rfl ⟨_, ?_, ?_, Apart.of_below Hb6.out, .inl rfl⟩
      · rw [Hrd.out, Hfin.out]
      · rw [Hrd.out, Hfin.out]; exact Hin6.out
    case false =>
    have Hfl := hid (show p.terms.length < 4096 by have := of_decide_eq_false hfull; omega)
    have q := five_cells hy5
    obtain ⟨y0, y1, y2, y3, y4⟩ := q
    go_upto_region 9 with fail
    clear z0 z1 hfull
    go_wp2_with fail
    refine (Hwh.out _ (bel_go HB5.out HB3.out)).mono ?_
    rintro e w6 ⟨v6, rfl, hi6, b6⟩
    obtain ⟨p6, n6, c6, rfl, hi6⟩ := hi6.shape
    obtain ⟨sx, hsx, hown6⟩ := hi6
    have hsx : sx = .slice p6 n6 c6 := by simpa using hsx.symm
    subst hsx
    clear y0 y1 y2 y3 y4
    have HB6 := hid (bel_go b6 HB5.out)
    have hz6 := HB6.out.size
    have hx6 := (HB6.out.block w.heap.size (by omega)).trans HX.out
    have hy6 := (HB6.out.block (w.heap.size + 1) (by omega)).trans HY.out
    have q := five_cells hy6
    obtain ⟨y0, y1, y2, y3, y4⟩ := q
    have f2 := frozen_all hy6 2; have f3 := frozen_all hy6 3
    have hs6 := b6.size
    clear b6 hx5 hy5 hr5
    have hown6 := hown6.mono (base' := B) (by have := HB3.out.size; omega)
    have hlow6 : w.heap.size + 1 < w5.heap.size := by omega
    go_upto_region 10 with fail
    clear y0 y1 y2 y3 y4 f2 f3
    have hy7 := heap_setCell_same _ (w.heap.size + 1) 3 _ _ (.slice p6 n6 c6) (heap_setCell_same w6 (w.heap.size + 1) 2 _ _ (.bool (decide (t.num < 0))) hy6)
    simp only [List.setIfInBounds_toArray, List.set_cons_zero, List.set_cons_succ] at hy7
    have E7 : ∀ k, k ≠ w.heap.size + 1 → ((w6.setCell ⟨w.heap.size + 1, 2, none⟩ (.bool (decide (t.num < 0)))).setCell ⟨w.heap.size + 1, 3, none⟩ (.slice p6 n6 c6)).heap[k]? = w6.heap[k]? := fun k hk => (Below.heap_setCell _ _ _ _ hk).trans (Below.heap_setCell _ _ _ _ hk)
    have hz7 : ((w6.setCell ⟨w.heap.size + 1, 2, none⟩ (.bool (decide (t.num < 0)))).setCell ⟨w.heap.size + 1, 3, none⟩ (.slice p6 n6 c6)).heap.size = w6.heap.size := by simp [World.setCell]
    have bw7 : Below w.heap.size w ((w6.setCell ⟨w.heap.size + 1, 2, none⟩ (.bool (decide (t.num < 0)))).setCell ⟨w.heap.size + 1, 3, none⟩ (.slice p6 n6 c6)) := ((bel_go HB6.out HB3.out).setCell (p := ⟨w.heap.size + 1, 2, none⟩) (Nat.le_succ _) _).setCell (p := ⟨w.heap.size + 1, 3, none⟩) (Nat.le_succ _) _
    generalize hW7 : ((w6.setCell ⟨w.heap.size + 1, 2, none⟩ (.bool (decide (t.num < 0)))).setCell ⟨w.heap.size + 1, 3, none⟩ (.slice p6 n6 c6)) = w7 at *
    have hn7 : Own w7 B 94 .u64 (.slice p6 n6 c6) (dig W t.num.natAbs) := row_stays hown6 fun k hk => E7 k (fun e => tag_ne (row_tag hown6 k hk).choose_spec (e ▸ hy6) (by decide) rfl)
    have hrow7 := row_stays Hrow.out (w' := w7) fun k hk => (E7 k (by have := far.out k hk; omega)).trans (((bel_go HB6.out HB3.out).block k (far.out k hk)))
    have hrr7 := RfRows.stays (w' := w7) (fun k hk => (bel_go HB6.out HB3.out).block k (by obtain ⟨cc', hc⟩ := hk; exact lt_of_block hc) |> fun e => by
      obtain ⟨cc', hc⟩ := hk
      have hlt := lt_of_block hc
      exact (E7 k (by omega)).trans e) Hrr.out
    have hx7 := (E7 w.heap.size (by omega)).trans hx6
    have hr7 := (E7 (w.heap.size + 2) (by omega)).trans ((HB6.out.block (w.heap.size + 2) (by omega)).trans HR.out)
    clear hW7 hy6 hown6 hx6 E7
    have b8 := below1 w7 (.cells #[.int .i64 t.op, .slice pc t.args.length cc, .bool (decide (t.num < 0)), .slice p6 n6 c6, .int .i64 t.sym] 71)
    have hnews := cells_at (c := [.int .i64 t.op, .slice pc t.args.length cc, .bool (decide (t.num < 0)), .slice p6 n6 c6, .int .i64 t.sym]) (heap_alloc_new w7 (.cells #[.int .i64 t.op, .slice pc t.args.length cc, .bool (decide (t.num < 0)), .slice p6 n6 c6, .int .i64 t.sym] 71))
    have hrow8 := ownsRow_later hrow7 b8
    have hz8 := size_alloc w7 (.cells #[.int .i64 t.op, .slice pc t.args.length cc, .bool (decide (t.num < 0)), .slice p6 n6 c6, .int .i64 t.sym] 71)
    have hx8 := (b8.block w.heap.size (by omega)).trans hx7
    have hr8 := (b8.block (w.heap.size + 2) (by omega)).trans hr7
    have hn8 := Own.kept hn7 b8
    have hrr8 := RfRows.stays (w' := w7.alloc (.cells #[.int .i64 t.op, .slice pc t.args.length cc, .bool (decide (t.num < 0)), .slice p6 n6 c6, .int .i64 t.sym] 71)) (fun k hk => b8.block k (by obtain ⟨cc', hc⟩ := hk; exact lt_of_block hc)) hrr7
    have bw8 := bel_go b8 bw7
    have q := two_cells hx7
    obtain ⟨z0, z1, -, -⟩ := q
    have q := five_cells hy7
    obtain ⟨y0, y1, y2, y3, y4⟩ := q
    obtain ⟨i0, hii, hiz0, hiz1, hiz2⟩ := info_parts infoTerm
    have Hn8 := hid hn8; have Hrr8 := hid hrr8; have Hx8 := hid hx8; have Hr8 := hid hr8; have Hbw8 := hid bw8
    have hz7' := Nat.le_of_eq hz7.symm
    replace hz7 := Nat.le_of_eq hz7.symm
    replace hz8 := Nat.le_of_eq hz8.symm
    clear hn7 hrr7 hx7 hr7 b8 hrow7 hx8 hr8 hn8 hrr8 bw8 bw7 hy7
    go_wp2_with (at_builtin; refine wpList_append_own_at _ rfl _ _ 23 rfl B 71 i0 _ 5 72 Tryz.underlying23 hii hiz0 hiz1 hiz2 rfl (by decide) _ p.terms.length _ rfl hrow8 ⟨w7.heap.size, 0, none⟩ 1 1 [.int .i64 t.op, .slice pc t.args.length cc, .bool (decide (t.num < 0)), .slice p6 n6 c6, .int .i64 t.sym] rfl rfl hnews (by intro u hu; simp at hu; rcases hu with rfl | rfl | rfl | rfl | rfl <;> rfl) (by simp [maxLen]; omega) (by omega) (by have := HB3.out.size; omega) ?_; intro v9 w9 ho9 hg9 _ hat9; obtain ⟨p9, c9, rfl⟩ := ownsRow_shape ho9; have fN : (Value.slice pb p.terms.length cb).ownBlock ≠ some w.heap.size := (fun e => by have := far.out _ e; omega); have fR : (Value.slice pb p.terms.length cb).ownBlock ≠ some (w.heap.size + 2) := (fun e => by have := far.out _ e; omega); have hx9 := (hg9.block w.heap.size (by omega) (fun e => fN e.symm)).trans Hx8.out; have q9 := two_cells hx9; obtain ⟨zz0, zz1, zf0, zf1⟩ := q9)
    have hat9 : (Value.slice p9 (p.terms.length + 1) c9).ownBlock = (Value.slice pb p.terms.length cb).ownBlock ∨ (Value.slice p9 (p.terms.length + 1) c9).ownBlock = some (w7.alloc (.cells #[.int .i64 t.op, .slice pc t.args.length cc, .bool (decide (t.num < 0)), .slice p6 n6 c6, .int .i64 t.sym] 71)).heap.size := hat9
    have hx10 := heap_setCell_same w9 w.heap.size 1 _ _ (.slice p9 (p.terms.length + 1) c9) hx9
    simp only [List.setIfInBounds_toArray, List.set_cons_zero, List.set_cons_succ] at hx10
    have hr9 := (hg9.block (w.heap.size + 2) (by omega) (fun e => fR e.symm)).trans Hr8.out
    have hr10 := (Below.heap_setCell w9 ⟨w.heap.size, 1, none⟩ (.slice p9 (p.terms.length + 1) c9) (w.heap.size + 2) (by show w.heap.size + 2 ≠ w.heap.size; omega)).trans hr9
    have h9b : ∀ k, (Value.slice p9 (p.terms.length + 1) c9).ownBlock = some k → k < w.heap.size ∨ w6.heap.size ≤ k := fun k hk => by
      rcases hat9 with h | h
      · exact .inl (far.out k (by rw [← h]; exact hk))
      · rw [h] at hk; cases hk; exact .inr (Nat.le_trans hz7' (by simp))
    have hu9 : ∀ (k : Nat) (c : Array Value), (w7.alloc (.cells #[.int .i64 t.op, .slice pc t.args.length cc, .bool (decide (t.num < 0)), .slice p6 n6 c6, .int .i64 t.sym] 71)).heap[k]? = some (Obj.cells c 94 (0, 0)) → w9.heap[k]? = (w7.alloc (.cells #[.int .i64 t.op, .slice pc t.args.length cc, .bool (decide (t.num < 0)), .slice p6 n6 c6, .int .i64 t.sym] 71)).heap[k]? := fun k c hc => hg9.block k (lt_of_block hc) (fun e => by
      obtain ⟨c', hc'⟩ := row_tag hrow8 k e.symm
      exact tag_ne hc hc' (by decide) rfl)
    have hrr9 := RfRows.stays (w' := w9) (fun k hk => by obtain ⟨c', hc⟩ := hk; exact hu9 k c' hc) Hrr8.out
    have hn9 : Own w9 B 94 .u64 (.slice p6 n6 c6) (dig W t.num.natAbs) := row_stays Hn8.out fun k hk => by obtain ⟨c', hc⟩ := row_tag Hn8.out k hk; exact hu9 k c' hc
    have hin9 : RfIn W0 B w9 (.slice p9 (p.terms.length + 1) c9) (p.terms ++ [t]) := ⟨_, by rw [List.length_append]; exact ho9, hrr9.snoc ⟨_, _, rfl, hargs, hn9⟩⟩
    have hin10 := hin9.setFar ⟨w.heap.size, 1, none⟩ (.slice p9 (p.terms.length + 1) c9) _ _ hx9 (by decide) (fun e => by have := h9b _ e; simp at this; omega)
    have ha9 : Apart (fun k => (Value.slice pb p.terms.length cb).ownBlock = some k) w w9 := (Apart.of_below Hbw8.out).grown hg9 (fun k e => e)
    have ha10 := ha9.setNew (q := ⟨w.heap.size, 1, none⟩) (Nat.le_refl _) (.slice p9 (p.terms.length + 1) c9)
    have hat10 : (Value.slice p9 (p.terms.length + 1) c9).ownBlock = (Value.slice pb p.terms.length cb).ownBlock ∨ ∀ k, (Value.slice p9 (p.terms.length + 1) c9).ownBlock = some k → w.heap.size ≤ k := hat9.imp id fun h k hk => by
      rw [h] at hk; cases hk
      have := Hbw8.out.size
      have : w.heap.size ≤ w6.heap.size := by omega
      exact Nat.le_trans (Nat.le_trans this hz7') (by simp)
    generalize hW10 : (w9.setCell ⟨w.heap.size, 1, none⟩ (.slice p9 (p.terms.length + 1) c9)) = w10 at *
    have hin11 := hin10.setFar ⟨w.heap.size + 2, 0, none⟩ (.slice pa p.syms.length ca) _ _ hr10 (by decide) (fun e => by have := h9b _ e; simp at this; omega)
    have hr11 := heap_setCell_same w10 (w.heap.size + 2) 0 _ _ (.slice pa p.syms.length ca) hr10
    have Hin12 := hid (hin11.setFar ⟨w.heap.size + 2, 1, none⟩ (.slice p9 (p.terms.length + 1) c9) _ _ hr11 (by decide) (fun e => by have := h9b _ e; simp at this; omega))
    have HR12 := hid (set2_same hr10 (.slice pa p.syms.length ca) (.slice p9 (p.terms.length + 1) c9))
    have Ha12 := hid ((ha10.setNew (q := ⟨w.heap.size + 2, 0, none⟩) (by show w.heap.size ≤ w.heap.size + 2; omega) (.slice pa p.syms.length ca)).setNew (q := ⟨w.heap.size + 2, 1, none⟩) (by show w.heap.size ≤ w.heap.size + 2; omega) (.slice p9 (p.terms.length + 1) c9))
    have Hat := hid hat10
    have q := two_cells hx10
    obtain ⟨z0, z1, -, -⟩ := q
    have q := two_cells hr10
    obtain ⟨r0, r1, g0, g1⟩ := q
    clear hW10 hx10 hr9 hr10 h9b hu9 hrr9 hn9 hin9 hin10 ha9 ha10 hat10 hin11 hr11 hx9 zz0 zz1 zf0 zf1 hg9 hat9 ho9 Hx8 Hr8 Hrr8 Hn8 hnews hrow8
    have Hfin := hid (plMake_new Hez.out Hf.out (by have := Hfl.out; omega))
    go_region
    clear z0 z1 r0 r1 g0 g1
    go_wp2
    have q := two_cells HR12.out
    obtain ⟨s0, s1, -, -⟩ := q
    refine bodyPost_ret (v := .tuple #[.agg #[.slice pa p.syms.length ca, .slice p9 (p.terms.length + 1) c9], .int .i64 (p.terms.length : Nat), .int .i64 0]) (by simp [results, Tryz.results47, go_sem, s0, s1]) rfl ⟨_, ?_, ?_, Ha12.out.drew, Hat.out⟩
    · rw [Hrd.out, Hfin.out]
    · rw [Hrd.out, Hfin.out]; exact Hin12.out.stays (fun _ _ _ _ _ _ => rfl) (fun _ _ _ => rfl)
end Go.Proofs.YtckkpolikdnilaaGreatDoor
/- A number that comes in as data: a bool and a slice of words; how it reads. -/
namespace Go.Proofs.YtckkpolikdnilaaGreatDoor
open Go.ChangeShapes Go.WideShapes Go.ChangeAt Go.RowKit Go.Deep Go.Joins Big

theorem laidOut : laidOutB Tryz.prog = true := by kernel_rfl
theorem fieldsInt : ∃ f0 f1 : Field, Tryz.prog.underlying 44 = some (.struct #[f0, f1]) ∧ oneCellFields Tryz.prog #[f0, f1] = true ∧ f0.type = 4 ∧ f1.type = 42 := ⟨_, _, Tryz.underlying44, by kernel_rfl, rfl, rfl⟩
theorem cellsInt : Tryz.prog.cellsOf 44 = 2 := by kernel_rfl
theorem cellsU64 : Tryz.prog.cellsOf 94 = 1 := by kernel_rfl

section
variable {H : Type} {enc : TypeId × Value → H} {w : World} {base : Nat} {spare : Nat → Bool} {held : Bool}
theorem wf_u64 {n : Int} (h : (Lit.int .u64 n).wf = true) : 0 ≤ n ∧ n < (W : Int) := by
  have h' : (decide (IntKind.u64.min ≤ n) && decide (n ≤ IntKind.u64.max)) = true := h
  have e1 : IntKind.u64.min = 0 := by decide
  have e2 : IntKind.u64.max = 18446744073709551615 := by decide
  rw [e1, e2] at h'
  simp only [Bool.and_eq_true, decide_eq_true_eq] at h'
  unfold W
  omega
/-- a slice of words that comes in -/
theorem open_nat {fuel : Nat} {v : Value} {y : DataW H × List MemPlace} (h : DataW.trod enc Tryz.prog w base spare held fuel 42 [v] = some y) : ∃ l, At w .u64 v l ∧ Small W l := by
  rcases open_ints Tryz.underlying42 Tryz.underlying94 cellsU64 h with ⟨hv, -⟩ | ⟨a, len, cap, zs, hv, hb, hl, hm, hz, -, hc, hwf⟩
  · obtain rfl : v = .slice none 0 0 := by simpa using hv
    exact ⟨[], At.nil w .u64, fun n hn => by cases hn⟩
  · obtain rfl : v = .slice (some a) len cap := by simpa using hv
    have hlz : len ≤ zs.length := by rw [hz]; split <;> omega
    refine ⟨(zs.take len).map Int.toNat, ?_, ?_⟩
    · have e : ((zs.take len).map Int.toNat).length = len := by simp [Nat.min_eq_left hlz]
      refine ⟨some a, cap, by rw [e], by rw [e]; exact hl, hm, nofun, fun h0 => ?_⟩
      rw [e] at h0
      have hs := hc 0 (by omega)
      obtain ⟨b, off, spot⟩ := a
      cases spot with
      | some x =>
        exfalso
        revert hs
        unfold World.cell? Addr.add
        split <;> simp
      | none =>
        refine ⟨b, off, rfl, ?_, fun i hi => ?_⟩
        · exact World.block_lt_of_cell? w _ hs
        · rw [e] at hi
          have hci := hc i (by omega)
          have hw := wf_u64 (hwf _ (List.getElem_mem (n := i) (l := zs) (by omega)))
          rw [add_plain] at hci
          rw [hci]
          have hg : zs.getD i 0 = zs[i]'(by omega) := by simp [List.getD, show i < zs.length by omega]
          rw [hg]
          simp only [List.getElem_map, List.getElem_take]
          congr 2
          omega
    · intro n hn
      obtain ⟨x, hx, rfl⟩ := List.mem_map.1 hn
      have hw := wf_u64 (hwf x (List.mem_of_mem_take hx))
      omega
set_option maxRecDepth 100000 in
/-- a number that comes in -/
theorem open_num {r : Reach} {b0 : Nat} {v : Value} {d : DataW H} {p : List MemPlace} (hv : Value.okWide Tryz.prog w r b0 44 v) (h : DataW.Trod enc Tryz.prog w base spare held 44 v d p) :
    ∃ neg s l, v = .agg #[.bool neg, s] ∧ At w .u64 s l ∧ Small W l := by
  obtain ⟨f0, f1, hs, hone, e0, e1⟩ := fieldsInt
  obtain ⟨v0, v1, y0, y1, n, rfl, -, -, h0, h1⟩ := open_agg2 hs hone cellsInt hv h
  rw [e0] at h0
  rw [e1] at h1
  obtain ⟨b, hb, -⟩ := DataW.trod_bool Tryz.underlying4 h0
  obtain ⟨l, ha, hl⟩ := open_nat h1
  obtain rfl : v0 = .bool b := by simpa using hb
  exact ⟨b, v1, l, rfl, ha, hl⟩
end
end Go.Proofs.YtckkpolikdnilaaGreatDoor
/- elenchuslaw04.fixed; PoolNil. -/
namespace Go.Proofs.YtckkpolikdnilaaGreatDoor
open Go.RowKit Big Go.WideMaps

theorem zeroRaw (w : World) : RawAt w (.agg #[.bool false, .slice none 0 0]) 0 := ⟨false, _, [], rfl, At.nil _ _, (fun x hx => by cases hx), by simp, by simp [sg, val]⟩
theorem IAt.two (w : World) (a b : Int) : IAt (w.alloc (.cells #[.int .i64 a, .int .i64 b] 3)) (.slice (some ⟨w.heap.size, 0, none⟩) 2 2) [a, b] :=
  ⟨_, 2, rfl, by simp, by simp [maxLen], fun h => (by cases h), fun _ => ⟨_, 0, rfl, by simp, fun i hi => by
    have h := cells_at (c := [.int .i64 a, .int .i64 b]) (heap_alloc_new w (.cells #[.int .i64 a, .int .i64 b] 3)) i
    rw [Go.WideShapes.add_plain] at h
    match i, hi with
    | 0, _ => exact h _ rfl
    | 1, _ => exact h _ rfl⟩⟩
theorem terms_field0 (pa : Option Addr) (na ca : Nat) (pb : Option Addr) (nb cb : Nat) (w : World) : (Instr.field 25 (.agg #[.slice pa na ca, .slice pb nb cb]) 0).run Tryz.prog w = .ok (.slice pa na ca) w := by kernel_rfl
theorem terms_field1 (pa : Option Addr) (na ca : Nat) (pb : Option Addr) (nb cb : Nat) (w : World) : (Instr.field 25 (.agg #[.slice pa na ca, .slice pb nb cb]) 1).run Tryz.prog w = .ok (.slice pb nb cb) w := by kernel_rfl
def tTrue : Tm := ⟨1, [], 0, 0⟩
def tAnd : Tm := ⟨6, [0, 0], 0, 0⟩
theorem mkTrue : plMake ⟨[], [], []⟩ tTrue = (⟨[], [tTrue], [1]⟩, 0, 0) := by kernel_rfl
theorem mkAnd : plMake ⟨[], [tTrue], [1]⟩ tAnd = (⟨[], [tTrue, tAnd], [1, 1]⟩, 1, 0) := by kernel_rfl
theorem mkAnd2 : plMake ⟨[], [tTrue, tAnd], [1, 1]⟩ tAnd = (⟨[], [tTrue, tAnd], [1, 1]⟩, 1, 0) := by kernel_rfl
theorem SyIn.nil (w : World) : SyIn w (.slice none 0 0) [] := ⟨none, 0, rfl, by simp, by simp [maxLen], fun _ => rfl, fun h => absurd h (by simp)⟩


set_option maxRecDepth 100000 in
set_option maxHeartbeats 1600000 in
theorem Make_nil2 (op sym : Int) (na nm ca cm : Nat) (pa pm : Option Addr) (b : Bool) (w : World) : Calls Tryz.prog 72 #[.pointer none, .agg #[.int .i64 op, .slice pa na ca, .bool b, .slice pm nm cm, .int .i64 sym]] w (RTwo 0 1 w) := by
  go_enter Tryz.func72, Tryz.ntmps72
  go_wp2
  go_ret2
  exact ⟨rfl, below1 _ _⟩
end Go.Proofs.YtckkpolikdnilaaGreatDoor
/- Terms and symbols that come in as data: how they read. -/
namespace Go.Proofs.YtckkpolikdnilaaGreatDoor
open Go.ChangeShapes Go.WideShapes Go.ChangeAt Go.RowKit Go.Deep Go.Joins Big

/-- a term as it comes in: its number by sign and words -/
structure Tx where
  op : Int
  args : List Int
  neg : Bool
  words : List Nat
  sym : Int
def Tx.tm (x : Tx) : Tm := ⟨x.op, x.args, sg x.neg (val W x.words), x.sym⟩
def TxAt (w : World) (v : Value) (x : Tx) : Prop := ∃ pa ca pm cm, v = .agg #[.int .i64 x.op, .slice pa x.args.length ca, .bool x.neg, .slice pm x.words.length cm, .int .i64 x.sym] ∧
  IAt w (.slice pa x.args.length ca) x.args ∧ At w .u64 (.slice pm x.words.length cm) x.words ∧ Small W x.words
theorem TxAt.raw {w : World} {v : Value} {x : Tx} (h : TxAt w v x) (hs : x.words.length ≤ 1099511627776) : TmRaw w v x.tm := by
  obtain ⟨pa, ca, pm, cm, rfl, h1, h2, h3⟩ := h
  exact ⟨pa, ca, _, pm, _, cm, rfl, h1, _, _, _, rfl, h2, h3, hs, rfl⟩
theorem TxAt.below {w w' : World} {v : Value} {x : Tx} (h : TxAt w v x) (hb : Below w.heap.size w w') : TxAt w' v x := by
  obtain ⟨pa, ca, pm, cm, rfl, h1, h2, h3⟩ := h
  exact ⟨pa, ca, pm, cm, rfl, h1.below hb, h2.below hb, h3⟩
theorem laidOutP : laidOutB Tryz.prog = true := by kernel_rfl
theorem ownP : ownKnob Tryz.prog.godebug = none := by kernel_rfl
theorem fieldsTerm : ∃ f0 f1 f2 f3 : Field, Tryz.prog.underlying 71 = some (.struct #[f0, f1, f2, f3]) ∧ f0.type = 3 ∧ f1.type = 69 ∧ f2.type = 44 ∧ f3.type = 3 ∧ f0.offset = 0 ∧ f1.offset = 1 ∧ f2.offset = 2 ∧ f3.offset = 4 :=
  ⟨_, _, _, _, Tryz.underlying71, rfl, rfl, rfl, rfl, rfl, rfl, rfl, rfl⟩
theorem fieldsSym : ∃ f0 f1 f2 : Field, Tryz.prog.underlying 39 = some (.struct #[f0, f1, f2]) ∧ f0.type = 9 ∧ f1.type = 3 ∧ f2.type = 3 ∧ f0.offset = 0 ∧ f1.offset = 1 ∧ f2.offset = 2 :=
  ⟨_, _, _, Tryz.underlying39, rfl, rfl, rfl, rfl, rfl, rfl⟩
theorem fieldsIntP : ∃ f0 f1 : Field, Tryz.prog.underlying 44 = some (.struct #[f0, f1]) ∧ f0.type = 4 ∧ f1.type = 42 ∧ f0.offset = 0 ∧ f1.offset = 1 := ⟨_, _, Tryz.underlying44, rfl, rfl, rfl, rfl⟩
theorem cellsTermP : Tryz.prog.cellsOf 71 = 5 := by kernel_rfl
theorem cellsSymP : Tryz.prog.cellsOf 39 = 3 := by kernel_rfl
theorem cellsIntP : Tryz.prog.cellsOf 44 = 2 := by kernel_rfl
theorem cellsNatP : Tryz.prog.cellsOf 42 = 1 := by kernel_rfl
theorem cellsBoolP : Tryz.prog.cellsOf 4 = 1 := by kernel_rfl
theorem cellsIP : Tryz.prog.cellsOf 3 = 1 := by kernel_rfl
theorem cellsSP : Tryz.prog.cellsOf 9 = 1 := by kernel_rfl
theorem cellsIsP : Tryz.prog.cellsOf 69 = 1 := by kernel_rfl
def dataOf {H : Type} : DataW H → List (DataW H)
  | .slice e _ => e
  | _ => []
section
variable {H : Type} {enc : TypeId × Value → H} {w : World} {base : Nat} {spare : Nat → Bool} {held : Bool}
theorem spotless {b off : Nat} {sp : Option _} {v : Value} (h : w.cell? ((⟨b, off, sp⟩ : Addr)) = some v) : sp = none := by
  cases sp with
  | none => rfl
  | some x =>
    exfalso
    revert h
    unfold World.cell?
    split <;> simp
theorem cells_each {a : Addr} {n : Nat} {cs : List Value} (h : w.cells? base a n = some cs) : cs.length = n ∧ ∀ j u, cs[j]? = some u → w.cell? (a.add j) = some u := by
  unfold World.cells? at h
  split at h
  · have hl := mapM_some_length h
    simp at hl
    refine ⟨hl, fun j u hj => ?_⟩
    have hjl : j < n := by
      have := (List.getElem?_eq_some_iff.1 hj).1
      omega
    have := mapM_some_get h j j (by simp [hjl])
    rw [this, hj]
  · cases h
/-- a row of structs that comes in -/
theorem open_rows {α : Type} {t e : TypeId} (size : Nat) (ht : Tryz.prog.underlying t = some (.slice e)) (hsz : Tryz.prog.cellsOf e = size) (hpos : 0 < size) {Q : List Value → α → DataW H → Prop}
    (each : ∀ m cs y, DataW.trod enc Tryz.prog w base spare held m e cs = some y → ∃ x : α, Q cs x y.1) {fuel : Nat} {cs : List Value} {y : DataW H × List MemPlace} (h : DataW.trod enc Tryz.prog w base spare held fuel t cs = some y) :
    ∃ (p : Option Addr) (cap : Nat) (l : List α), cs = [.slice p l.length cap] ∧ l.length ≤ cap ∧ cap ≤ maxLen ∧ (p = none → cap = 0) ∧
      (0 < l.length → ∃ b off, p = some ⟨b, off, none⟩ ∧ b < w.heap.size ∧ ∀ i (h : i < l.length), ∃ c d, c.length = size ∧ (∀ j u, c[j]? = some u → w.cell? ⟨b, off + i * size + j, none⟩ = some u) ∧ Q c l[i] d ∧ d ∈ dataOf y.1) := by
  rcases DataW.trod_slice ht h with ⟨rfl, -⟩ | ⟨a, len, cap, elems, rest, m, rfl, rfl, rfl, hb, hl, hm, hel, hget, -, -⟩
  · exact ⟨none, 0, [], rfl, by simp, by simp [maxLen], fun _ => rfl, fun h => absurd h (by simp)⟩
  · rw [hsz] at hget
    have hone : ∀ i : Fin len, ∃ x : α, ∃ c d, c.length = size ∧ (∀ j u, c[j]? = some u → w.cell? ((a.add (i.1 * size)).add j) = some u) ∧ Q c x d ∧ d ∈ elems.map (·.1) := fun i => by
      have hg := hget i.1 i.2
      have hil : i.1 < elems.length := by omega
      rw [List.getElem?_eq_getElem hil] at hg
      obtain ⟨ci, h1, h2⟩ := Option.bind_eq_some_iff.1 hg
      obtain ⟨x, hx⟩ := each m ci _ h2
      obtain ⟨k1, k2⟩ := cells_each h1
      exact ⟨x, ci, _, k1, k2, hx, List.mem_map.2 ⟨_, List.getElem_mem hil, rfl⟩⟩
    obtain ⟨f, hf⟩ := Classical.axiomOfChoice hone
    have hll : (List.ofFn f).length = len := by simp
    refine ⟨some a, cap, List.ofFn f, by rw [hll], by rw [hll]; exact hl, hm, fun e => by (cases e), fun h0 => ?_⟩
    rw [hll] at h0
    obtain ⟨b, off, sp⟩ := a
    have hsp : sp = none := by
      obtain ⟨c, d, k1, k2, -⟩ := hf ⟨0, h0⟩
      have := k2 0 (c[0]'(by omega)) (by simp)
      simp only [Nat.zero_mul, Addr.add] at this
      exact spotless this
    subst hsp
    have hbl : b < w.heap.size := by
      obtain ⟨c, d, k1, k2, -⟩ := hf ⟨0, h0⟩
      have := k2 0 (c[0]'(by omega)) (by simp)
      exact World.block_lt_of_cell? w _ (by simpa only [add_plain] using this)
    refine ⟨b, off, rfl, hbl, fun i hi => ?_⟩
    rw [hll] at hi
    obtain ⟨c, d, k1, k2, k3, k4⟩ := hf ⟨i, hi⟩
    exact ⟨c, d, k1, fun j u hj => by have := k2 j u hj; simpa only [add_plain] using this, by rw [List.getElem_ofFn]; exact k3, k4⟩
/-- a slice of ints that comes in -/
theorem open_iat {fuel : Nat} {v : Value} {y : DataW H × List MemPlace} (h : DataW.trod enc Tryz.prog w base spare held fuel 69 [v] = some y) : ∃ p l cap, v = .slice p l.length cap ∧ IAt w (.slice p l.length cap) l := by
  obtain ⟨p, cap, l, hcs, h1, h2, h3, h4⟩ := open_rows (α := Int) (Q := fun cs x _ => cs = [.int .i64 x]) 1 Tryz.underlying69 cellsIP (by decide) (fun m cs y hy => by
    obtain ⟨n, g, -, -⟩ := DataW.trod_int Tryz.underlying3 hy
    exact ⟨n, g⟩) h
  injection hcs with hcs _
  refine ⟨p, l, cap, hcs, p, cap, rfl, h1, h2, h3, fun h0 => ?_⟩
  obtain ⟨b, off, e, hb, hc⟩ := h4 h0
  refine ⟨b, off, e, hb, fun i hi => ?_⟩
  obtain ⟨c, d, -, k, rfl, -⟩ := hc i hi
  have := k 0 _ rfl
  simpa using this
set_option maxRecDepth 100000 in
theorem open_tx {fuel : Nat} {cs : List Value} {y : DataW H × List MemPlace} (h : DataW.trod enc Tryz.prog w base spare held fuel 71 cs = some y) :
    ∃ x : Tx, ∃ c0 c1 c2 c3 c4, cs = [c0, c1, c2, c3, c4] ∧ TxAt w (.agg #[c0, c1, c2, c3, c4]) x := by
  obtain ⟨f0, f1, f2, f3, hs, e0, e1, e2, e3, o0, o1, o2, o3⟩ := fieldsTerm
  obtain ⟨xs, n, rfl, rfl, hl, hlen, hf⟩ := DataW.trod_struct hs h
  rw [cellsTermP] at hl
  match cs, hl, xs, hlen with
  | [c0, c1, c2, c3, c4], _, [y0, y1, y2, y3], _ =>
    have h0 := hf 0 f0 rfl
    have h1 := hf 1 f1 rfl
    have h2 := hf 2 f2 rfl
    have h3 := hf 3 f3 rfl
    rw [e0, o0, cellsIP] at h0
    rw [e1, o1, cellsIsP] at h1
    rw [e2, o2, cellsIntP] at h2
    rw [e3, o3, cellsIP] at h3
    obtain ⟨k, g0, -, -⟩ := DataW.trod_int Tryz.underlying3 (show DataW.trod enc Tryz.prog w base spare held n 3 [c0] = some y0 from h0)
    obtain ⟨p, l, cap, g1, hi⟩ := open_iat (show DataW.trod enc Tryz.prog w base spare held n 69 [c1] = some y1 from h1)
    obtain ⟨s, g3, -, -⟩ := DataW.trod_int Tryz.underlying3 (show DataW.trod enc Tryz.prog w base spare held n 3 [c4] = some y3 from h3)
    obtain ⟨i0, i1, hsi, ei0, ei1, oi0, oi1⟩ := fieldsIntP
    obtain ⟨zs, m, -, -, -, hzl, hzf⟩ := DataW.trod_struct hsi (show DataW.trod enc Tryz.prog w base spare held n 44 [c2, c3] = some y2 from h2)
    match zs, hzl with
    | [z0, z1], _ =>
      have k0 := hzf 0 i0 rfl
      have k1 := hzf 1 i1 rfl
      rw [ei0, oi0, cellsBoolP] at k0
      rw [ei1, oi1, cellsNatP] at k1
      obtain ⟨b, gb, -⟩ := DataW.trod_bool Tryz.underlying4 (show DataW.trod enc Tryz.prog w base spare held m 4 [c2] = some z0 from k0)
      obtain ⟨ws, hw, hsm⟩ := open_nat (show DataW.trod enc Tryz.prog w base spare held m 42 [c3] = some z1 from k1)
      injection g0 with g0 _; injection g3 with g3 _; injection gb with gb _
      subst g0 g1 g3 gb
      obtain ⟨pm, cm, rfl, r⟩ := hw
      exact ⟨⟨k, l, b, ws, s⟩, _, _, _, _, _, rfl, p, cap, pm, cm, rfl, hi, ⟨pm, cm, rfl, r⟩, hsm⟩
set_option maxRecDepth 100000 in
theorem open_sy {fuel : Nat} {cs : List Value} {y : DataW H × List MemPlace} (h : DataW.trod enc Tryz.prog w base spare held fuel 39 cs = some y) :
    ∃ s : Sy, cs = s.cells ∧ ∃ r, y.1 = .agg (.lit (.string s.name) :: r) := by
  obtain ⟨f0, f1, f2, hs, e0, e1, e2, o0, o1, o2⟩ := fieldsSym
  obtain ⟨xs, n, rfl, rfl, hl, hlen, hf⟩ := DataW.trod_struct hs h
  rw [cellsSymP] at hl
  match cs, hl, xs, hlen with
  | [c0, c1, c2], _, [y0, y1, y2], _ =>
    have h0 := hf 0 f0 rfl
    have h1 := hf 1 f1 rfl
    have h2 := hf 2 f2 rfl
    rw [e0, o0, cellsSP] at h0
    rw [e1, o1, cellsIP] at h1
    rw [e2, o2, cellsIP] at h2
    obtain ⟨t, g0, gy, -⟩ := DataW.trod_string Tryz.underlying9 (show DataW.trod enc Tryz.prog w base spare held n 9 [c0] = some y0 from h0)
    obtain ⟨a, g1, -, -⟩ := DataW.trod_int Tryz.underlying3 (show DataW.trod enc Tryz.prog w base spare held n 3 [c1] = some y1 from h1)
    obtain ⟨s, g2, -, -⟩ := DataW.trod_int Tryz.underlying3 (show DataW.trod enc Tryz.prog w base spare held n 3 [c2] = some y2 from h2)
    injection g0 with g0 _; injection g1 with g1 _; injection g2 with g2 _
    subst g0 g1 g2
    exact ⟨⟨t.data.toList, a, s⟩, rfl, _, by rw [gy]; rfl⟩
set_option maxRecDepth 100000 in
/-- a term by value -/
theorem open_term {r : Reach} {b0 : Nat} {v : Value} {d : DataW H} {p : List MemPlace} (hv : Value.okWide Tryz.prog w r b0 71 v) (h : DataW.Trod enc Tryz.prog w base spare held 71 v d p) : ∃ x, TxAt w v x := by
  obtain ⟨f0, f1, f2, f3, hs, -⟩ := fieldsTerm
  obtain ⟨cs, rfl, hsz⟩ := okWide_struct hs hv
  obtain ⟨fuel, hf⟩ := h
  obtain ⟨x, c0, c1, c2, c3, c4, hcs, hx⟩ := open_tx hf
  obtain ⟨l⟩ := cs
  have : l = [c0, c1, c2, c3, c4] := by simpa [Value.cells] using hcs
  exact ⟨x, by rw [this]; exact hx⟩
set_option maxRecDepth 100000 in
/-- a symbol by value -/
theorem open_sym {r : Reach} {b0 : Nat} {v : Value} {d : DataW H} {p : List MemPlace} (hv : Value.okWide Tryz.prog w r b0 39 v) (h : DataW.Trod enc Tryz.prog w base spare held 39 v d p) : ∃ s : Sy, v = s.val := by
  obtain ⟨f0, f1, f2, hs, -⟩ := fieldsSym
  obtain ⟨cs, rfl, hsz⟩ := okWide_struct hs hv
  obtain ⟨fuel, hf⟩ := h
  obtain ⟨s, hcs, -⟩ := open_sy hf
  obtain ⟨l⟩ := cs
  have : l = s.cells := by simpa [Value.cells] using hcs
  exact ⟨s, by rw [this]; rfl⟩
/-- terms that come in -/
def TxsIn (w : World) (v : Value) (l : List Tx) : Prop :=
  ∃ p cap, v = .slice p l.length cap ∧ l.length ≤ cap ∧ cap ≤ maxLen ∧ (p = none → cap = 0) ∧
    (0 < l.length → ∃ b off, p = some ⟨b, off, none⟩ ∧ b < w.heap.size ∧ ∀ i (h : i < l.length), ∃ c0 c1 c2 c3 c4, w.cell? ⟨b, off + i * 5, none⟩ = some c0 ∧ w.cell? ⟨b, off + i * 5 + 1, none⟩ = some c1 ∧ w.cell? ⟨b, off + i * 5 + 2, none⟩ = some c2 ∧ w.cell? ⟨b, off + i * 5 + 3, none⟩ = some c3 ∧ w.cell? ⟨b, off + i * 5 + 4, none⟩ = some c4 ∧
      TxAt w (.agg #[c0, c1, c2, c3, c4]) l[i])
theorem TxsIn.tms {v : Value} {l : List Tx} (h : TxsIn w v l) (hs : ∀ x ∈ l, x.words.length ≤ 1099511627776) : TmsIn w v (l.map Tx.tm) := by
  obtain ⟨p, cap, rfl, h1, h2, h3, h4⟩ := h
  refine ⟨p, cap, by rw [List.length_map], by rw [List.length_map]; exact h1, h2, h3, fun h0 => ?_⟩
  rw [List.length_map] at h0
  obtain ⟨b, off, e, hb, hc⟩ := h4 h0
  refine ⟨b, off, e, hb, fun i hi => ?_⟩
  rw [List.length_map] at hi
  obtain ⟨c0, c1, c2, c3, c4, k0, k1, k2, k3, k4, hx⟩ := hc i hi
  exact ⟨c0, c1, c2, c3, c4, k0, k1, k2, k3, k4, by rw [List.getElem_map]; exact hx.raw (hs _ (List.getElem_mem hi))⟩
theorem open_txs {fuel : Nat} {cs : List Value} {y : DataW H × List MemPlace} (h : DataW.trod enc Tryz.prog w base spare held fuel 23 cs = some y) : ∃ v l, cs = [v] ∧ TxsIn w v l := by
  obtain ⟨p, cap, l, hcs, h1, h2, h3, h4⟩ := open_rows (α := Tx) (Q := fun cs x _ => ∃ c0 c1 c2 c3 c4, cs = [c0, c1, c2, c3, c4] ∧ TxAt w (.agg #[c0, c1, c2, c3, c4]) x) 5 Tryz.underlying23 cellsTermP (by decide) (fun m cs y hy => open_tx hy) h
  refine ⟨_, l, hcs, p, cap, rfl, h1, h2, h3, fun h0 => ?_⟩
  obtain ⟨b, off, e, hb, hc⟩ := h4 h0
  refine ⟨b, off, e, hb, fun i hi => ?_⟩
  obtain ⟨c, d, -, k, ⟨c0, c1, c2, c3, c4, rfl, hx⟩, -⟩ := hc i hi
  exact ⟨c0, c1, c2, c3, c4, k 0 _ rfl, k 1 _ rfl, k 2 _ rfl, k 3 _ rfl, k 4 _ rfl, hx⟩
theorem open_sys {fuel : Nat} {cs : List Value} {y : DataW H × List MemPlace} (h : DataW.trod enc Tryz.prog w base spare held fuel 22 cs = some y) :
    ∃ v l, cs = [v] ∧ SyIn w v l ∧ ∀ s ∈ l, ∃ r, DataW.agg (.lit (.string s.name) :: r) ∈ dataOf y.1 := by
  obtain ⟨p, cap, l, hcs, h1, h2, h3, h4⟩ := open_rows (α := Sy) (Q := fun cs s d => cs = s.cells ∧ ∃ r, d = .agg (.lit (.string s.name) :: r)) 3 Tryz.underlying22 cellsSymP (by decide) (fun m cs y hy => open_sy hy) h
  refine ⟨_, l, hcs, ⟨p, cap, rfl, h1, h2, h3, fun h0 => ?_⟩, fun s hs => ?_⟩
  · obtain ⟨b, off, e, hb, hc⟩ := h4 h0
    refine ⟨b, off, e, hb, fun i hi => ?_⟩
    obtain ⟨c, d, -, k, ⟨rfl, -⟩, -⟩ := hc i hi
    exact ⟨k 0 _ rfl, k 1 _ rfl, k 2 _ rfl⟩
  · obtain ⟨i, hi, rfl⟩ := List.mem_iff_getElem.1 hs
    obtain ⟨b, off, e, hb, hc⟩ := h4 (by omega)
    obtain ⟨c, d, -, k, ⟨-, r, rfl⟩, hm⟩ := hc i hi
    exact ⟨r, hm⟩
end
end Go.Proofs.YtckkpolikdnilaaGreatDoor
/- elenchusref04.CheckSyms, Few. -/
namespace Go.Proofs.YtckkpolikdnilaaGreatDoor
open Go.RowKit Big Go.WideMaps

/-- two symbols of one name stand among these -/
def dupN : List Sy → Bool
  | [] => false
  | s :: l => dupN l || l.any (fun x => x.name == s.name)
/-- a name stands twice among the first k -/
def dupAt (l : List Sy) (i : Nat) (h : i < l.length) : Bool := (l.take i).any fun x => x.name == l[i].name
theorem plDecls_err : ∀ (l : List Sy) (p : Po), p.syms.length + l.length ≤ 256 → l.any plBadSym = false → ((∀ i (h : i < l.length), dupAt l i h = false ∧ p.syms.any (fun x => x.name == l[i].name) = false) → (plDecls p l).2 = 0) ∧ ((∃ i, ∃ h : i < l.length, dupAt l i h = true ∨ p.syms.any (fun x => x.name == l[i].name) = true) → (plDecls p l).2 = 7)
  | [], p, _, _ => ⟨fun _ => rfl, fun ⟨i, h, _⟩ => absurd h (by simp)⟩
  | s :: l, p, hl, hb => by
    rw [List.any_cons, Bool.or_eq_false_iff] at hb
    have hlen : p.syms.length ≠ 256 := by simp at hl; omega
    cases hn : p.syms.any (fun x => x.name == s.name)
    case true =>
      refine ⟨fun h => ?_, fun _ => ?_⟩
      · have := (h 0 (by simp)).2
        simp only [List.getElem_cons_zero] at this
        rw [hn] at this; cases this
      · unfold plDecls
        rw [plDeclare_name hb.1 hn]
        rfl
    case false =>
      have hd := plDeclare_new hb.1 hn hlen
      have hr : plDecls p (s :: l) = plDecls ⟨p.syms ++ [s], p.terms, p.sorts⟩ l := by
        rw [plDecls]
        rw [hd]
        simp
      rw [hr]
      have ih := plDecls_err l ⟨p.syms ++ [s], p.terms, p.sorts⟩ (by simp at hl ⊢; omega) hb.2
      have key : ∀ i (h : i < l.length), dupAt (s :: l) (i + 1) (by simpa using h) = (dupAt l i h || (s.name == l[i].name)) := fun i h => by
        unfold dupAt
        simp only [List.take_succ_cons, List.any_cons, List.getElem_cons_succ]
        rw [Bool.or_comm]
      have key2 : ∀ i (h : i < l.length), (p.syms ++ [s]).any (fun x => x.name == l[i].name) = (p.syms.any (fun x => x.name == l[i].name) || (s.name == l[i].name)) := fun i h => by simp
      refine ⟨fun h => ih.1 fun i hi => ?_, fun ⟨i, hi, h⟩ => ?_⟩
      · have h1 := h (i + 1) (by simpa using hi)
        rw [key i hi] at h1
        simp only [List.getElem_cons_succ, Bool.or_eq_false_iff] at h1
        exact ⟨h1.1.1, by show (p.syms ++ [s]).any _ = false; rw [key2 i hi, h1.2, h1.1.2]; rfl⟩
      · cases i with
        | zero =>
          exfalso
          rcases h with h | h
          · simp [dupAt] at h
          · simp only [List.getElem_cons_zero] at h; rw [hn] at h; cases h
        | succ i =>
          have hi' : i < l.length := by simpa using hi
          refine ih.2 ⟨i, hi', ?_⟩
          rw [key i hi'] at h
          simp only [List.getElem_cons_succ, Bool.or_eq_true] at h
          rcases h with (h | h) | h
          · exact .inl h
          · exact .inr (by show (p.syms ++ [s]).any _ = true; rw [key2 i hi', h]; simp)
          · exact .inr (by show (p.syms ++ [s]).any _ = true; rw [key2 i hi', h]; rfl)
theorem newErr_dup {l : List Sy} (h : ¬ 256 < l.length) (hb : l.any plBadSym = false) (i : Nat) (hi : i < l.length) (hd : dupAt l i hi = true) : plNewErr l = 7 := by
  unfold plNewErr
  rw [if_neg h, if_neg (by simp [hb])]
  exact (plDecls_err l ⟨[], [], []⟩ (by simp; omega) hb).2 ⟨i, hi, .inl hd⟩
theorem newErr_ok {l : List Sy} (h : ¬ 256 < l.length) (hb : l.any plBadSym = false) (hd : ∀ i (hi : i < l.length), dupAt l i hi = false) : plNewErr l = 0 := by
  unfold plNewErr
  rw [if_neg h, if_neg (by simp [hb])]
  exact (plDecls_err l ⟨[], [], []⟩ (by simp; omega) hb).1 fun i hi => ⟨hd i hi, rfl⟩
set_option maxRecDepth 100000 in
set_option maxHeartbeats 12800000 in
theorem CheckSyms_any (v : Value) (l : List Sy) (w : World) (hl : SyIn w v l) : Calls Tryz.prog 52 #[v] w (RNum .i64 (plNewErr l) w) := by
  obtain ⟨pa, ca, rfl, i1, i2, -, i4⟩ := hl
  have Hi := hid i4
  have Hsym := hid (fun (s : Sy) W => IsSym_any s W)
  unfold maxLen at i2
  clear i4
  cases hlong : decide ((256 : Int) < (l.length : Nat))
  case true =>
    have He := hid (show plNewErr l = 11 by unfold plNewErr; rw [if_pos (by have := of_decide_eq_true hlong; omega)])
    go_enter Tryz.func52, Tryz.ntmps52
    go_wp2
    go_ret
    exact ⟨by rw [He.out]; rfl, Below.refl _ _⟩
  case false =>
  have Hle := hid (show ¬ 256 < l.length by have := of_decide_eq_false hlong; omega)
  have hle : l.length ≤ 256 := by have := Hle.out; omega
  go_enter Tryz.func52, Tryz.ntmps52
  go_wp2_with fail
  clear hlong
  go_loopw [14] (fun i wr => ∃ k : Nat, k ≤ l.length ∧ i = .int .i64 (k : Nat) ∧ Hid ((l.take k).any plBadSym = false) ∧ Hid (Below w.heap.size w wr)) (fun i _ => l.length - (intOf i).toNat)
  case atStart => exact ⟨0, Nat.zero_le _, rfl, hid rfl, hid (Below.refl _ _)⟩
  case round =>
    obtain ⟨k, hk, rfl, hany, Hb⟩ := hrel
    by_cases hlt : k < l.length
    · have hlt' : (k : Int) < (l.length : Nat) := by omega
      obtain ⟨bb, off, rfl, j1, j2⟩ := Hi.out (by omega)
      obtain ⟨m0, m1, m2⟩ := j2 k hlt
      have m0 := (Hb.out.cell (p := ⟨bb, off + k * 3, none⟩) j1).trans m0
      have m1 := (Hb.out.cell (p := ⟨bb, off + k * 3 + 1, none⟩) j1).trans m1
      have m2 := (Hb.out.cell (p := ⟨bb, off + k * 3 + 2, none⟩) j1).trans m2
      have hc := fun W => Hsym.out l[k] W
      have hs1 := any_take_succ plBadSym l k hlt hany.out
      have hs2 := any_of_at plBadSym l k hlt
      generalize l[k] = x at *
      generalize plBadSym x = r at *
      unfold Sy.val at hc
      have Hs1 := hid hs1; have Hs2 := hid hs2; have Hc := hid hc
      clear j2 hs1 hs2 hc hany
      obtain ⟨nm, ar, so⟩ := x
      dsimp only at *
      have bx := below1 wr (.cells #[.string ⟨nm.toArray⟩, .int .i64 ar, .int .i64 so] 39)
      cases r
      · go_wp2_with (refine (Hc.out _).mono ?_; rintro e w1 ⟨rfl, b1⟩)
        go_roundw
        case rel => exact ⟨k + 1, by omega, rfl, hid (Hs1.out (by trivial)), hid (Hb.out.trans ((bel_go b1 bx).mono Hb.out.size))⟩
        case measure => simp [intOf]; omega
      · have He := hid (show plNewErr l = 6 by unfold plNewErr; rw [if_neg Hle.out, if_pos (Hs2.out (by trivial))])
        go_wp2_with (refine (Hc.out _).mono ?_; rintro e w1 ⟨rfl, b1⟩)
        go_ret
        exact ⟨by rw [He.out]; rfl, Hb.out.trans ((bel_go b1 bx).mono Hb.out.size)⟩
    · have hkk : k = l.length := by omega
      subst hkk
      have Hbad := hid (show l.any plBadSym = false by have := hany.out; rwa [List.take_length] at this)
      clear hany
      go_wp2_with fail
      go_loopw [24] (fun i wq => ∃ k : Nat, k ≤ l.length ∧ i = .int .i64 (k : Nat) ∧ Hid (∀ i (h : i < l.length), i < k → dupAt l i h = false) ∧ Hid (Below w.heap.size w wq)) (fun i _ => l.length - (intOf i).toNat)
      case atStart => exact ⟨0, Nat.zero_le _, rfl, hid (fun i _ h => absurd h (by omega)), Hb⟩
      case round =>
        obtain ⟨k, hk, rfl, hdup, Hq⟩ := hrel
        by_cases hlt : k < l.length
        · have hlt' : (k : Int) < (l.length : Nat) := by omega
          obtain ⟨bb, off, rfl, j1, j2⟩ := Hi.out (by omega)
          obtain ⟨m0, m1, m2⟩ := j2 k hlt
          have m0 := (Hq.out.cell (p := ⟨bb, off + k * 3, none⟩) j1).trans m0
          have m1 := (Hq.out.cell (p := ⟨bb, off + k * 3 + 1, none⟩) j1).trans m1
          have m2 := (Hq.out.cell (p := ⟨bb, off + k * 3 + 2, none⟩) j1).trans m2
          have hstep : ∀ j (hj : j < k), ((l.take j).any (fun x => x.name == l[k].name) = false) → ((l[j]'(by omega)).name == l[k].name) = false → (l.take (j + 1)).any (fun x => x.name == l[k].name) = false := fun j hj h1 h2 => by
            rw [List.take_succ_eq_append_getElem (by omega), List.any_append, h1]
            simpa using h2
          have hyes : ∀ j (hj : j < k), ((l[j]'(by omega)).name == l[k].name) = true → dupAt l k hlt = true := fun j hj h => by
            unfold dupAt
            rw [List.any_eq_true]
            exact ⟨l[j]'(by omega), by rw [List.mem_take_iff_getElem]; exact ⟨j, by omega, rfl⟩, h⟩
          have hno : (l.take k).any (fun x => x.name == l[k].name) = false → ∀ i (h : i < l.length), i < k + 1 → dupAt l i h = false := fun h i hi hik => by
            by_cases hie : i = k
            · subst hie; exact h
            · exact hdup.out i hi (by omega)
          have Hstep := hid hstep; have Hyes := hid hyes; have Hno := hid hno
          have bx := below1 wr (.cells #[.string ⟨l[k].name.toArray⟩, .int .i64 l[k].arity, .int .i64 l[k].sort] 39)
          have hbx := heap_alloc_new wr (.cells #[.string ⟨l[k].name.toArray⟩, .int .i64 l[k].arity, .int .i64 l[k].sort] 39)
          have hsz := size_alloc wr (.cells #[.string ⟨l[k].name.toArray⟩, .int .i64 l[k].arity, .int .i64 l[k].sort] 39)
          have hkc : (k : Int) ≤ (ca : Nat) := by omega
          have hkn : (0 : Int) ≤ (k : Nat) := by omega
          have J2 := hid j2
          clear hstep hyes hno j2 hdup
          generalize hxk : l[k].name = nk at *
          generalize l[k].arity = ak at *
          generalize l[k].sort = sk at *
          have Hxk := hid hxk
          clear hxk
          go_upto_region 12 with fail
          generalize hW5 : (wr.alloc (.cells #[.string ⟨nk.toArray⟩, .int .i64 ak, .int .i64 sk] 39)) = w5 at *
          have Hq5 := hid (Hq.out.trans (bx.mono Hq.out.size))
          have hwr : wr.heap.size < w5.heap.size := by omega
          clear hW5 hsz m0 m1 m2 bx
          generalize wr.heap.size = gx at hbx hwr ⊢
          have HBX := hid hbx
          clear hbx
          go_wp2_with fail
          go_loopw [33] (fun i wr => ∃ j : Nat, j ≤ k ∧ i = .int .i64 (j : Nat) ∧ Hid ((l.take j).any (fun x => x.name == nk) = false) ∧ Hid (Below w5.heap.size w5 wr)) (fun i _ => k - (intOf i).toNat)
          case atStart => exact ⟨0, Nat.zero_le _, rfl, hid rfl, hid (Below.refl _ _)⟩
          case round =>
            obtain ⟨j, hj, rfl, hn, Hi5⟩ := hrel
            have Hiw := hid (Hq5.out.trans (Hi5.out.mono Hq5.out.size))
            by_cases hjk : j < k
            · have hjk' : (j : Int) < (k : Nat) := by omega
              obtain ⟨m0, m1, m2⟩ := J2.out j (by omega)
              have m0 := (Hiw.out.cell (p := ⟨bb, off + j * 3, none⟩) j1).trans m0
              have m1 := (Hiw.out.cell (p := ⟨bb, off + j * 3 + 1, none⟩) j1).trans m1
              have m2 := (Hiw.out.cell (p := ⟨bb, off + j * 3 + 2, none⟩) j1).trans m2
              have bz := below1 wr (.cells #[.string ⟨(l[j]'(by omega)).name.toArray⟩, .int .i64 (l[j]'(by omega)).arity, .int .i64 (l[j]'(by omega)).sort] 39)
              have y0 := (bz.cell (p := ⟨gx, 0, none⟩) (by have := Hi5.out.size; dsimp only; omega)).trans ((Hi5.out.cell (p := ⟨gx, 0, none⟩) (by dsimp only; omega)).trans (three_cells HBX.out).1)
              have hs := Hstep.out j hjk
              have hy := Hyes.out j hjk
              have Hi6 := hid (Hi5.out.trans (bz.mono Hi5.out.size))
              generalize (l[j]'(by omega)).arity = aj at *
              generalize (l[j]'(by omega)).sort = sj at *
              generalize (l[j]'(by omega)).name = nj at *
              have Hs := hid hs; have Hy := hid hy
              clear hs hy bz
              cases he : (nk == nj)
              · have hne : (nj == nk) = false := by rw [Bool.eq_false_iff] at he ⊢; intro h; exact he (by simpa using (eq_of_beq h).symm)
                have Hr := hid (Hs.out hn.out hne)
                clear hne
                go_wp2_with fail
                go_roundw
                case rel => exact ⟨j + 1, by omega, rfl, Hr, Hi6⟩
                case measure => simp [intOf]; omega
              · have hne : (nj == nk) = true := by simpa using (eq_of_beq he).symm
                have He := hid (show plNewErr l = 7 from newErr_dup Hle.out Hbad.out k hlt (Hy.out hne))
                clear hne
                go_wp2_with fail
                go_ret
                exact ⟨by rw [He.out]; rfl, Hq5.out.trans (Hi6.out.mono Hq5.out.size)⟩
            · have hjj : j = k := by omega
              subst hjj
              have Hr := hid (Hno.out hn.out)
              go_wp2_with fail
              go_roundw
              case rel => exact ⟨j + 1, by omega, rfl, Hr, Hiw⟩
              case measure => simp [intOf]; omega
        · have hkk : k = l.length := by omega
          subst hkk
          have He := hid (show plNewErr l = 0 from newErr_ok Hle.out Hbad.out fun i hi => hdup.out i hi hi)
          go_wp2_with fail
          go_ret
          exact ⟨by rw [He.out]; rfl, Hq.out⟩
end Go.Proofs.YtckkpolikdnilaaGreatDoor
/- elenchusref04.Check. -/
namespace Go.Proofs.YtckkpolikdnilaaGreatDoor
open Go.RowKit Big Go.WideMaps

theorem plMake_split (p : Po) (t : Tm) (h : p.terms.length ≤ 4096) : (plMake p t).2.2 ≠ 0 ∨ (∃ k : Nat, k < p.terms.length ∧ plMake p t = (p, ((k : Nat) : Int), 0)) ∨ (plWrong p t = 0 ∧ p.terms.length < 4096 ∧ plMake p t = (⟨p.syms, p.terms ++ [t], p.sorts ++ [plSort p t]⟩, ((p.terms.length : Nat) : Int), 0)) := by
  by_cases hw : plWrong p t = 0
  · cases hf : plFind p.terms t with
    | some k => exact .inr (.inl ⟨k, (plFind_some hf).1, plMake_there hw hf⟩)
    | none =>
      by_cases hl : p.terms.length = 4096
      · left; rw [plMake_full hw hf hl]; show (11 : Int) ≠ 0; decide
      · exact .inr (.inr ⟨hw, by omega, plMake_new hw hf hl⟩)
  · left; rw [plMake_bad hw]; exact hw
/-- where the reference's Check stands -/
def ChkAt (W0 : World) (B G : Nat) (vs : Value) (syms : List Sy) (terms : List Tm) (k : Nat) (wr : World) : Prop :=
  ∃ pk vr, (plNews ⟨syms, [], []⟩ terms).2 = (plNews pk (terms.drop k)).2 ∧ PoGood pk ∧ pk.syms = syms ∧ pk.terms.length = k ∧ RfIn W0 B wr vr pk.terms ∧ (∀ x ∈ pk.terms, sz W x.num.natAbs ≤ 549755813888) ∧
    wr.heap[G]? = some (.cells #[vs, vr] 25 (0, 0)) ∧ Below W0.heap.size W0 wr
set_option maxRecDepth 100000 in
set_option maxHeartbeats 25600000 in
theorem RCheck_any (vs vt : Value) (syms : List Sy) (terms : List Tm) (w : World) (hs : SyIn w vs syms) (ht : TmsIn w vt terms) (hsz : ∀ x ∈ terms, sz W x.num.natAbs ≤ 549755813888) :
    Calls Tryz.prog 30 #[.agg #[vs, vt]] w (RNum .i64 (plCheck syms terms) w) := by
  have Hs := hid hs; have Ht := hid ht; have Hsz := hid hsz
  obtain ⟨pa, ca, rfl, -, -, -, -⟩ := hs
  obtain ⟨pb, cb, rfl, b1, b2, -, -⟩ := ht
  have bx := below1 w (.cells #[.slice pa syms.length ca, .slice pb terms.length cb] 25)
  have hx0 := heap_alloc_new w (.cells #[.slice pa syms.length ca, .slice pb terms.length cb] 25)
  have hz := size_alloc w (.cells #[.slice pa syms.length ca, .slice pb terms.length cb] 25)
  obtain ⟨z0, z1, -, -⟩ := two_cells hx0
  have Hcs := hid (CheckSyms_any _ syms _ (Hs.out.below bx))
  generalize hne : plNewErr syms = ne at Hcs
  have Hne := hid hne
  clear hsz hne
  unfold maxLen at b2
  go_enter Tryz.func30, Tryz.ntmps30
  go_wp2_with fail
  generalize hW : (w.alloc (.cells #[.slice pa syms.length ca, .slice pb terms.length cb] 25)) = W1 at *
  refine Hcs.out.mono ?_
  rintro e w2 ⟨rfl, b2'⟩
  have Hb2 := hid (bel_go b2' bx)
  have hx2 := (b2'.block w.heap.size (by omega)).trans hx0
  have hz2 := b2'.size
  clear hW z0 z1 Hcs
  cases he : (ne != 0)
  case true =>
    have He := hid (show plCheck syms terms = ne by unfold plCheck; rw [if_pos (by rw [Hne.out]; simpa using he), Hne.out])
    clear hx0 hx2
    go_wp2
    go_ret
    exact ⟨by rw [He.out]; rfl, Hb2.out⟩
  case false =>
  have He := hid (show plCheck syms terms = (plNews ⟨syms, [], []⟩ terms).2 by unfold plCheck; rw [if_neg (by rw [Hne.out]; simpa using he)])
  have hsl : syms.length ≤ 256 := by
    have h0 : plNewErr syms = 0 := by rw [Hne.out]; simpa using he
    by_cases h : 256 < syms.length
    · unfold plNewErr at h0; rw [if_pos h] at h0; cases h0
    · omega
  obtain ⟨z0, z1, -, -⟩ := two_cells hx2
  have bz := below1 w2 (.cells #[.slice pa syms.length ca, .slice none 0 0] 25)
  have hg0 := heap_alloc_new w2 (.cells #[.slice pa syms.length ca, .slice none 0 0] 25)
  have hzg := size_alloc w2 (.cells #[.slice pa syms.length ca, .slice none 0 0] 25)
  have hx3 := (bz.block w.heap.size (by omega)).trans hx2
  have Hb3 := hid (bel_go bz Hb2.out)
  have Hsl := hid hsl
  go_upto_region 5 with fail
  generalize hW : (w2.alloc (.cells #[.slice pa syms.length ca, .slice none 0 0] 25)) = W3 at *
  obtain ⟨G, hG⟩ : ∃ G, G = w2.heap.size := ⟨_, rfl⟩
  rw [← hG] at hg0 hzg ⊢
  have hGw : w.heap.size < G := by omega
  have hG3 : G < W3.heap.size := by omega
  clear hW z0 z1 hx0 hx2 bz hsl bx b2' hz hz2 hG hzg he
  obtain ⟨z0, z1, -, -⟩ := two_cells hx3
  have Hg0 := hid hg0
  clear hg0 hx3
  go_wp2_with fail
  clear z0 z1
  go_loopw [22] (fun i wr => ∃ k : Nat, k ≤ terms.length ∧ i = .int .i64 (k : Nat) ∧ Hid (ChkAt w W3.heap.size G (.slice pa syms.length ca) syms terms k wr) ∧ W3.heap.size ≤ wr.heap.size) (fun i _ => terms.length - (intOf i).toNat)
  case atStart => exact ⟨0, Nat.zero_le _, rfl, hid ⟨⟨syms, [], []⟩, .slice none 0 0, by rw [List.drop_zero], ⟨rfl, by simp, Hsl.out, fun k h => absurd h (by simp)⟩, rfl, rfl, ⟨[], World.ownsRow_nil _ _ _ _, rfl⟩, fun x h => absurd h (by simp), Hg0.out, Hb3.out⟩, Nat.le_refl _⟩
  case round =>
    obtain ⟨k, hk, rfl, Hk, hzr⟩ := hrel
    by_cases hlt : k < terms.length
    · have hlt' : (k : Int) < (terms.length : Nat) := by omega
      obtain ⟨pk, vr, hnx, hgood, hsy, hln, hrf, hszk, hgk, hbk⟩ := Hk.out
      obtain ⟨_, _, e5, -, -, -, hc⟩ := Ht.out.below hbk
      obtain ⟨_, _, e6, -, -, -, hcw⟩ := Ht.out
      cases e5; cases e6
      obtain ⟨bb, off, rfl, j1, j2⟩ := hcw (by omega)
      obtain ⟨c0, c1, c2, c3, c4, m0, m1, m2, m3, m4, hraw⟩ := j2 k hlt
      have m0 := (hbk.cell (p := ⟨bb, off + k * 5, none⟩) j1).trans m0
      have m1 := (hbk.cell (p := ⟨bb, off + k * 5 + 1, none⟩) j1).trans m1
      have m2 := (hbk.cell (p := ⟨bb, off + k * 5 + 2, none⟩) j1).trans m2
      have m3 := (hbk.cell (p := ⟨bb, off + k * 5 + 3, none⟩) j1).trans m3
      have m4 := (hbk.cell (p := ⟨bb, off + k * 5 + 4, none⟩) j1).trans m4
      have hszx := Hsz.out terms[k] (List.getElem_mem hlt)
      have hdr : terms.drop k = terms[k] :: terms.drop (k + 1) := List.drop_eq_getElem_cons hlt
      rw [hdr] at hnx
      generalize terms[k] = x at *
      have hsp := plMake_split pk x hgood.2.1
      have hrm := fun W (hW : Below wr.heap.size wr W) => RMake_any w W3.heap.size pk hgood x _ vr _ W (bel_go hW hbk) (Nat.le_trans hzr hW.size) (show SyIn w (.slice pa syms.length ca) pk.syms by rw [hsy]; exact Hs.out) (hrf.below hW) hraw hszx hszk
      obtain ⟨pe, ce, b', pm', nm', cm', ea, -, -⟩ := hraw
      have ea' := agg5 ea
      obtain ⟨rfl, rfl, rfl, rfl, rfl⟩ := ea'
      obtain ⟨csr, hrow, -⟩ := id hrf
      obtain ⟨pr, cr, rfl⟩ := ownsRow_shape hrow
      rw [hln] at hgk hrow hrm hsp
      have Hrm := hid hrm
      obtain ⟨g0, g1, -, -⟩ := two_cells hgk
      have bt := below1 wr (.cells #[.int .i64 x.op, .slice pe x.args.length ce, .bool b', .slice pm' nm' cm', .int .i64 x.sym] 71)
      have hGr : G < wr.heap.size := lt_of_block hgk
      have g0 := (bt.cell (p := ⟨G, 0, none⟩) hGr).trans g0
      have g1 := (bt.cell (p := ⟨G, 1, none⟩) hGr).trans g1
      have Hnx := hid hnx; have Hgood := hid hgood; have Hsy := hid hsy; have Hln := hid hln; have Hszk := hid hszk; have Hgk := hid hgk; have Hbk := hid hbk; have Hszx := hid hszx
      have Hrow := hid hrow
      clear hc hcw j2 hnx hgood hsy hln hszk hgk hbk hszx hrm hdr hrf ea hrow Hk
      obtain ⟨⟨p', n, er⟩, hpm⟩ : ∃ q, q = plMake pk x := ⟨_, rfl⟩
      rw [← hpm] at Hrm hsp
      have Hpm := hid hpm
      clear hpm
      dsimp only at Hrm hsp
      have hv3 : Hid (∀ u, (Value.slice pr k cr).ownBlock = some u → W3.heap.size ≤ u) := hid fun u hu => (World.ownsRow.lt Hrow.out u hu).1
      go_wp2_with fail
      refine (Hrm.out _ bt).mono ?_
      rintro e w4 ⟨vr', rfl, hrf', hA, -⟩
      clear m0 m1 m2 m3 m4 g0 g1 Hrm
      have hwW3 : w.heap.size ≤ W3.heap.size := by omega
      have hb4 : Below w.heap.size w w4 := (bel_go bt Hbk.out).trans (hA.below (B := w.heap.size) (Nat.le_trans hwW3 (Nat.le_trans hzr bt.size)) (fun i hi => Nat.le_trans hwW3 (hv3.out i hi)))
      have hg4 : w4.heap[G]? = _ := (hA.block G (Nat.lt_of_lt_of_le hGr bt.size) (fun e => by have := hv3.out G e; omega)).trans ((bt.block G hGr).trans Hgk.out)
      obtain ⟨csr', hrow', hrr'⟩ := id hrf'
      obtain ⟨pr', cr', evr⟩ := ownsRow_shape hrow'
      subst evr
      have hz4 : wr.heap.size ≤ w4.heap.size := Nat.le_trans bt.size hA.size
      have Hrf' := hid hrf'; have Hb4 := hid hb4; have Hg4 := hid hg4
      clear hrf' hA hb4 hg4 hrow' hrr' bt
      have hpnew : Hid (er ≠ 0 → (plNews pk (x :: terms.drop (k + 1))).2 = er) := hid fun h => by
        have hq : plNew pk x = (p', n, er) := by unfold plNew; rw [← Hpm.out, if_neg (fun hh => h hh.1)]
        rw [plNews, hq, if_pos h]
      rcases hsp with hE | ⟨j, hj, hE⟩ | ⟨hw0, hl, hE⟩
      · have Hf := hid (show plCheck syms terms = er by rw [He.out, Hnx.out, hpnew.out hE])
        have hbt : (er != 0) = true := by simpa using hE
        clear hE
        go_wp2_with fail
        go_ret
        exact ⟨by rw [Hf.out]; rfl, bel_go (below1 _ _) Hb4.out⟩
      · injection hE with e1 hE
        injection hE with e2 e3
        subst e1 e2 e3
        have Hf := hid (show plCheck syms terms = 6 by
          have hq : plNew p' x = (p', 0, 6) := by
            unfold plNew
            rw [← Hpm.out, if_pos ⟨rfl, by have := Hln.out; show ((j : Nat) : Int) < ((p'.terms.length : Nat) : Int); omega⟩]
          rw [He.out, Hnx.out, plNews, hq, if_pos (by show (6 : Int) ≠ 0; decide)])
        have hjk : ((j : Int) != (k : Nat)) = true := by
          have := Hln.out
          simp
          omega
        clear hj
        go_wp2_with fail
        go_ret
        exact ⟨by rw [Hf.out]; rfl, bel_go (below1 _ _) Hb4.out⟩
      · injection hE with e1 hE
        injection hE with e2 e3
        have e2' : n = (k : Nat) := e2
        subst e1 e3
        rw [e2'] at Hpm
        clear e2
        subst e2'
        have Hnext := hid (show (plNews ⟨syms, [], []⟩ terms).2 = (plNews ⟨pk.syms, pk.terms ++ [x], pk.sorts ++ [plSort pk x]⟩ (terms.drop (k + 1))).2 by
          have hq : plNew pk x = (⟨pk.syms, pk.terms ++ [x], pk.sorts ++ [plSort pk x]⟩, ((k : Nat) : Int), 0) := by
            unfold plNew
            rw [← Hpm.out, if_neg (fun hh => by have h2 := hh.2; have h3 := Hln.out; dsimp only at h2; omega)]
          rw [Hnx.out, plNews, hq, if_neg (by simp)])
        have Hg5 := hid (Hgood.out.make hw0 (by have := Hln.out; omega))
        have bq := below1 w4 (.cells #[.slice pa syms.length ca, .slice pr' (pk.terms ++ [x]).length cr'] 25)
        have hg5 := (bq.block G (by omega)).trans Hg4.out
        have hz5 := bq.size
        have hf0 := frozen_all hg5 0; have hf1 := frozen_all hg5 1
        obtain ⟨g0, g1, -, -⟩ := two_cells hg5
        have hg6 := set2_same hg5 (.slice pa syms.length ca) (.slice pr' (pk.terms ++ [x]).length cr')
        have hin5 := Hrf'.out.below bq
        have hGo : ∀ u, (Value.slice pr' (pk.terms ++ [x]).length cr').ownBlock = some u → u ≠ G := fun u hu e => by
          obtain ⟨cs5, hrow5, -⟩ := hin5
          have := (World.ownsRow.lt hrow5 u hu).1
          omega
        have hin6 := (hin5.setFar ⟨G, 0, none⟩ (.slice pa syms.length ca) _ _ hg5 (by decide) (fun e => hGo _ e rfl))
        have hg56 := heap_setCell_same _ G 0 _ _ (.slice pa syms.length ca) hg5
        have Hin7 := hid (hin6.setFar ⟨G, 1, none⟩ (.slice pr' (pk.terms ++ [x]).length cr') _ _ hg56 (by decide) (fun e => hGo _ e rfl))
        have Hg6 := hid hg6
        have Hb7 := hid (((bel_go bq Hb4.out).setCell (p := ⟨G, 0, none⟩) (by show w.heap.size ≤ G; omega) (.slice pa syms.length ca)).setCell (p := ⟨G, 1, none⟩) (by show w.heap.size ≤ G; omega) (.slice pr' (pk.terms ++ [x]).length cr'))
        have Hlen := hid (show (pk.terms ++ [x]).length = k + 1 by have := Hln.out; simp; omega)
        generalize (pk.terms ++ [x]).length = LL at Hin7 Hg6 Hb7 Hlen hin5 hg5 hz5 g0 g1 hf0 hf1 ⊢
        clear hg5 hg6 hin5 hin6 hg56 hGo bq hw0 hl
        go_wp2_with fail
        go_roundw
        case rel =>
          refine ⟨k + 1, by omega, rfl, hid ⟨_, _, Hnext.out, Hg5.out, Hsy.out, by have := Hln.out; simp; omega, Hin7.out, ?_, Hg6.out, Hb7.out⟩, by simp [World.setCell]; omega⟩
          intro y hy
          rcases List.mem_append.1 hy with hy | hy
          · exact Hszk.out y hy
          · simp at hy; subst hy; exact Hszx.out
        case measure => simp [intOf]; omega
    · have hkk : k = terms.length := by omega
      subst hkk
      obtain ⟨pk, vr, hnx, -, -, -, -, -, -, hbk⟩ := Hk.out
      rw [List.drop_length] at hnx
      have Hf := hid (show plCheck syms terms = 0 by rw [He.out, hnx]; rfl)
      have Hbk := hid hbk
      clear hnx hbk Hk
      go_wp2_with fail
      go_ret
      exact ⟨by rw [Hf.out]; rfl, Hbk.out⟩
end Go.Proofs.YtckkpolikdnilaaGreatDoor
/- Of rows that may be: truths are worth 0 or 1, so that the reference's Ops are the program's. -/
namespace Go.Proofs.YtckkpolikdnilaaGreatDoor

/-- what an Op makes of its parts' values, as the reference has it -/
def vlRefOp (syms : List Sy) (ts : List Tb5) (t : Tm) (l : List Int) : Int :=
  if t.op = 1 then 1
  else if t.op = 3 then t.num
  else if t.op = 4 then vlTell ((syms[t.sym.toNat]?.getD ⟨[], 0, 0⟩).sort) (vlTabAt ts t.sym) l
  else if t.op = 5 then vlTruth (!(vlAt l 0 != 0))
  else if t.op = 8 then vlTruth ((vlAt l 0 != 0) == (vlAt l 1 != 0))
  else if t.op = 9 then (if vlAt l 0 ≠ 0 then vlAt l 1 else vlAt l 2)
  else if t.op = 10 then vlTruth (decide (vlAt l 0 = vlAt l 1))
  else if t.op = 11 then vlTruth (decide (vlAt l 0 ≤ vlAt l 1))
  else if t.op = 13 then t.num * vlAt l 0
  else if t.op = 6 ∨ t.op = 7 then vlTruth (decide (l.countP (· != 0) = l.length) || (decide (t.op = 7) && decide (0 < l.countP (· != 0))))
  else if t.op = 12 then vlSum l
  else 0
def Steps : Po → List Tm → Prop
  | _, [] => True
  | p, t :: l => plWrong p t = 0 ∧ Steps ⟨p.syms, p.terms ++ [t], p.sorts ++ [plSort p t]⟩ l
theorem steps_of_news : ∀ (l : List Tm) (p : Po), p.terms.length ≤ 4096 → (plNews p l).2 = 0 → Steps p l
  | [], _, _, _ => trivial
  | t :: l, p, hp, h => by
    unfold plNews at h
    by_cases hne : (plNew p t).2.2 ≠ 0
    · rw [if_pos hne] at h; exact absurd h hne
    · rw [if_neg hne] at h
      rcases plMake_split p t hp with h1 | ⟨k, hk, h1⟩ | ⟨h1, h2, h3⟩
      · exfalso
        apply hne
        unfold plNew
        rw [if_neg (by intro ⟨a, _⟩; exact h1 a)]
        exact h1
      · exfalso
        apply hne
        unfold plNew
        rw [h1]
        rw [if_pos ⟨rfl, by show ((k : Nat) : Int) < (p.terms.length : Nat); omega⟩]
        show (6 : Int) ≠ 0
        decide
      · have e : plNew p t = plMake p t := by
          unfold plNew
          rw [h3, if_neg (by rintro ⟨_, a⟩; exact absurd a (by show ¬ ((p.terms.length : Nat) : Int) < (p.terms.length : Nat); omega))]
        rw [e, h3] at h
        exact ⟨h1, steps_of_news l _ (by simp; omega) h⟩
/-- the values of terms, truths among them 0 or 1 -/
structure Known (p : Po) (known : List Int) : Prop where
  len : known.length = p.terms.length
  sorts : p.sorts.length = p.terms.length
  bit : ∀ a : Int, 0 ≤ a → a < (p.terms.length : Nat) → plSortAt p a = 1 → vlAt known a = 0 ∨ vlAt known a = 1
theorem truth_bit (b : Bool) : vlTruth b = 0 ∨ vlTruth b = 1 := by cases b <;> simp [vlTruth]
structure Right (p : Po) (t : Tm) : Prop where
  rule : ∃ r, plRule t.op = some r
  sym : t.op = 4 → 0 ≤ t.sym ∧ t.sym < (p.syms.length : Nat)
  part : ∀ a ∈ t.args, 0 ≤ a ∧ a < (p.terms.length : Nat)
  count : t.op ≠ 4 → (plRu t.op).least ≤ (t.args.length : Nat) ∧ ((t.args.length : Nat) : Int) ≤ (plRu t.op).most
  sort : ∀ i (h : i < t.args.length), plSortAt p (t.args[i]'h) = plPart p t i
theorem right_of {p : Po} {t : Tm} (h : plWrong p t = 0) : Right p t := by
  unfold plWrong at h
  have h1 : plBadForm t = false := by cases e : plBadForm t; rfl; simp [e] at h
  rw [h1] at h
  have h2 : plNoSym p t = false := by cases e : plNoSym p t; rfl; simp [e] at h
  rw [h2] at h
  have h3 : plNoPart p t = false := by cases e : plNoPart p t; rfl; simp [e] at h
  rw [h3] at h
  have h4 : plBadCount p t = false := by cases e : plBadCount p t; rfl; simp [e] at h
  rw [h4] at h
  have h5 : plBadSort p t = false := by cases e : plBadSort p t; rfl; simp [e] at h
  refine ⟨?_, fun h => ?_, fun a ha => ?_, fun h => ?_, fun i hi => ?_⟩
  · unfold plBadForm at h1
    simp only [Bool.or_eq_false_iff] at h1
    exact Option.isSome_iff_exists.1 (by simpa using h1.1.1)
  · unfold plNoSym at h2
    rw [h] at h2
    simp at h2
    omega
  · unfold plNoPart at h3
    have := List.any_eq_false.1 h3 a ha
    unfold plNoTerm at this
    simp at this
    omega
  · unfold plBadCount at h4
    rw [if_neg h] at h4
    simp at h4
    exact h4
  · unfold plBadSort at h5
    have := List.any_eq_false.1 h5 (t.args[i], i) (by
      rw [List.mem_iff_getElem]
      exact ⟨i, by simpa using hi, by simp⟩)
    simpa using this
theorem rule_ops {op : Int} {r : Ru} (h : plRule op = some r) : op = 1 ∨ op = 2 ∨ op = 3 ∨ op = 4 ∨ op = 5 ∨ op = 6 ∨ op = 7 ∨ op = 8 ∨ op = 9 ∨ op = 10 ∨ op = 11 ∨ op = 12 ∨ op = 13 := by
  unfold plRule at h
  repeat (split at h; omega)
  cases h
theorem at_parts {t : Tm} {known : List Int} {i : Nat} (h : i < t.args.length) : vlAt (vlParts t known) (i : Nat) = vlAt known t.args[i] := by
  unfold vlParts
  show ((t.args.map (vlAt known))[(((i : Nat) : Int)).toNat]?).getD 0 = _
  simp [h]
variable {p : Po} {t : Tm} {known : List Int}
theorem Known.part (hk : Known p known) (hr : Right p t) {i : Nat} (h : i < t.args.length) (hs : plPart p t i = 1) : vlAt (vlParts t known) (i : Nat) = 0 ∨ vlAt (vlParts t known) (i : Nat) = 1 := by
  rw [at_parts h]
  have h1 := hr.part _ (List.getElem_mem h)
  exact hk.bit _ h1.1 h1.2 ((hr.sort i h).trans hs)
theorem countP_all (l : List Int) : decide (l.countP (· != 0) = l.length) = l.all (· != 0) := by
  rw [Bool.eq_iff_iff]
  simp [List.countP_eq_length]
theorem countP_any (l : List Int) : decide (0 < l.countP (· != 0)) = l.any (· != 0) := by
  rw [Bool.eq_iff_iff]
  simp [List.countP_pos_iff]
theorem op_ref (ts : List Tb5) (hk : Known p known) (hr : Right p t) : vlRefOp p.syms ts t (vlParts t known) = vlOp p.syms ts t (vlParts t known) := by
  obtain ⟨r, hru⟩ := hr.rule
  have hl : (vlParts t known).length = t.args.length := by simp [vlParts]
  rcases rule_ops hru with e | e | e | e | e | e | e | e | e | e | e | e | e
  · have hc := hr.count (by omega)
    have : t.args.length = 0 := by rw [e] at hc; have : (plRu 1).most = 0 := by decide
                                   omega
    have h0 : vlParts t known = [] := List.eq_nil_of_length_eq_zero (by omega)
    rw [h0]
    unfold vlRefOp vlOp
    rw [if_pos e, if_pos (.inl e)]
    rfl
  · have hc := hr.count (by omega)
    have : t.args.length = 0 := by rw [e] at hc; have : (plRu 2).most = 0 := by decide
                                   omega
    have h0 : vlParts t known = [] := List.eq_nil_of_length_eq_zero (by omega)
    rw [h0]
    unfold vlRefOp vlOp
    simp [e, vlTruth]
  · unfold vlRefOp vlOp; simp [e]
  · unfold vlRefOp vlOp; simp [e]
  · unfold vlRefOp vlOp; simp [e]
    congr 1
    generalize vlAt (vlParts t known) 0 = x
    rw [Bool.eq_iff_iff]
    simp
  · unfold vlRefOp vlOp; simp [e]
    rw [← countP_all]
    simp
  · have hc := hr.count (by omega)
    unfold vlRefOp vlOp; simp only [e]
    simp only [show ¬ ((7 : Int) = 1) by decide, show ¬ ((7 : Int) = 3) by decide, show ¬ ((7 : Int) = 4) by decide, show ¬ ((7 : Int) = 5) by decide, show ¬ ((7 : Int) = 8) by decide, show ¬ ((7 : Int) = 9) by decide, show ¬ ((7 : Int) = 10) by decide, show ¬ ((7 : Int) = 11) by decide, show ¬ ((7 : Int) = 13) by decide, show ¬ ((7 : Int) = 6) by decide, show ¬ ((7 : Int) = 2) by decide, if_false, or_true, if_true, or_self, decide_true, Bool.true_and]
    rw [countP_all, countP_any]
    congr 1
    have hpos : 0 < (vlParts t known).length := by
      rw [e] at hc
      have : (plRu 7).least = 2 := by decide
      omega
    generalize vlParts t known = m at *
    cases ha : m.any (· != 0)
    · rw [Bool.or_false]
      cases hb : m.all (· != 0)
      · rfl
      · exfalso
        have h1 := List.all_eq_true.1 hb (m[0]) (List.getElem_mem hpos)
        have h2 := List.any_eq_false.1 ha (m[0]) (List.getElem_mem hpos)
        exact h2 h1
    · rw [Bool.or_true]
  · have hc := hr.count (by omega)
    have h2 : t.args.length = 2 := by rw [e] at hc; have h1 : (plRu 8).most = 2 := by decide
                                      have h3 : (plRu 8).least = 2 := by decide
                                      omega
    have p0 := hk.part hr (i := 0) (by omega) (by unfold plPart; rw [e, if_neg (by decide)]; decide)
    have p1 := hk.part hr (i := 1) (by omega) (by unfold plPart; rw [e, if_neg (by decide)]; decide)
    unfold vlRefOp vlOp; simp [e]
    congr 1
    generalize ha : vlAt (vlParts t known) 0 = x at *
    generalize hb : vlAt (vlParts t known) 1 = y at *
    have p0 : x = 0 ∨ x = 1 := by have := p0; simpa [ha] using this
    have p1 : y = 0 ∨ y = 1 := by have := p1; simpa [hb] using this
    rcases p0 with rfl | rfl <;> rcases p1 with rfl | rfl <;> decide
  · unfold vlRefOp vlOp; simp [e]
  · unfold vlRefOp vlOp; simp [e]
  · unfold vlRefOp vlOp; simp [e]
  · unfold vlRefOp vlOp; simp [e]
  · unfold vlRefOp vlOp; simp [e]
/-- one term more -/
theorem Known.snoc (ts : List Tb5) (hk : Known p known) (hr : Right p t) : Known ⟨p.syms, p.terms ++ [t], p.sorts ++ [plSort p t]⟩ (known ++ [vlOp p.syms ts t (vlParts t known)]) := by
  refine ⟨by simp [hk.len], by simp [hk.sorts], fun a h0 h1 hs => ?_⟩
  have hv : vlAt (known ++ [vlOp p.syms ts t (vlParts t known)]) a = if a.toNat < known.length then vlAt known a else vlOp p.syms ts t (vlParts t known) := by
    unfold vlAt
    split
    · next h => rw [List.getElem?_append_left h]
    · next h =>
      have : a.toNat = known.length := by have := hk.len; simp at h1; omega
      rw [this]; simp
  have hso : plSortAt ⟨p.syms, p.terms ++ [t], p.sorts ++ [plSort p t]⟩ a = if a.toNat < known.length then plSortAt p a else plSort p t := by
    unfold plSortAt
    have := hk.len; have := hk.sorts
    split
    · next h => rw [List.getElem?_append_left (by omega)]
    · next h =>
      have : a.toNat = p.sorts.length := by simp at h1; omega
      rw [this]; simp
  rw [hv]
  rw [hso] at hs
  split
  · next h =>
    rw [if_pos h] at hs
    exact hk.bit a h0 (by have := hk.len; omega) hs
  · next h =>
    rw [if_neg h] at hs
    obtain ⟨r, hru⟩ := hr.rule
    unfold plSort at hs
    unfold vlOp
    rcases rule_ops hru with e | e | e | e | e | e | e | e | e | e | e | e | e
    · simp [e]; exact truth_bit _
    · simp [e]; exact truth_bit _
    · rw [e, if_neg (by decide), if_neg (by decide)] at hs; exact absurd hs (by decide)
    · rw [if_pos e] at hs
      simp only [e]
      simp
      unfold plSymAt at hs
      unfold vlTell
      rw [if_pos hs]
      exact truth_bit _
    · simp [e]; exact truth_bit _
    · simp [e]; exact truth_bit _
    · simp [e]; exact truth_bit _
    · simp [e]; exact truth_bit _
    · have hc := hr.count (by omega)
      have h3 : t.args.length = 3 := by rw [e] at hc; have h1 : (plRu 9).most = 3 := by decide
                                        have h3 : (plRu 9).least = 3 := by decide
                                        omega
      rw [if_neg (by omega), if_pos e] at hs
      have hs1 : plPart p t 1 = 1 := by unfold plPart; rw [if_pos ⟨e, by omega⟩]; exact hs
      have hs2 : plPart p t 2 = 1 := by unfold plPart; rw [if_pos ⟨e, by omega⟩]; exact hs
      have p1 := hk.part hr (i := 1) (by omega) hs1
      have p2 := hk.part hr (i := 2) (by omega) hs2
      simp only [e]
      simp
      split
      · exact p2
      · exact p1
    · simp [e]; exact truth_bit _
    · simp [e]; exact truth_bit _
    · rw [e, if_neg (by decide), if_neg (by decide)] at hs; exact absurd hs (by decide)
    · rw [e, if_neg (by decide), if_neg (by decide)] at hs; exact absurd hs (by decide)
end Go.Proofs.YtckkpolikdnilaaGreatDoor
/- value.isCondition. -/
namespace Go.Proofs.YtckkpolikdnilaaGreatDoor
open Go.RowKit Big Go.WideMaps

/-- σ tells the sorts of the terms -/
structure VlSorts (syms : List Sy) (terms : List Tm) (σ : Nat → Int) : Prop where
  ite : ∀ k (h : k < terms.length), terms[k].op = 9 → ∃ j : Nat, ∃ h1 : 1 < terms[k].args.length, terms[k].args[1] = (j : Nat) ∧ j < k ∧ σ k = σ j
  num : ∀ k (h : k < terms.length), terms[k].op = 3 ∨ terms[k].op = 12 ∨ terms[k].op = 13 → σ k = 2
  app : ∀ k (h : k < terms.length), terms[k].op = 4 → ∃ j : Nat, ∃ h1 : j < syms.length, terms[k].sym = (j : Nat) ∧ σ k = syms[j].sort
  bool : ∀ k (h : k < terms.length), terms[k].op ≠ 9 → terms[k].op ≠ 3 → terms[k].op ≠ 12 → terms[k].op ≠ 13 → terms[k].op ≠ 4 → σ k = 1
set_option maxRecDepth 100000 in
set_option maxHeartbeats 3200000 in
theorem isCondition_any (vs vt : Value) (syms : List Sy) (terms : List Tm) (σ : Nat → Int) (t : Nat) (w : World) (hs : SyIn w vs syms) (ht : TmsIn w vt terms) (hσ : VlSorts syms terms σ) (htl : t < terms.length) :
    Calls Tryz.prog 43 #[.agg #[vs, vt], .int .i64 (t : Nat)] w (RBool (σ t == 1) w) := by
  obtain ⟨ps, cps, rfl, i1, i2, -, i4⟩ := hs
  obtain ⟨pt, cpt, rfl, j1, j2, -, j4⟩ := ht
  have I4 := hid i4; have J4 := hid j4; have HS := hid hσ
  unfold maxLen at i2 j2
  have b0 := below1 w (.cells #[.slice ps syms.length cps, .slice pt terms.length cpt] 25)
  have n0 := heap_alloc_new w (.cells #[.slice ps syms.length cps, .slice pt terms.length cpt] 25)
  generalize hW : w.alloc (.cells #[.slice ps syms.length cps, .slice pt terms.length cpt] 25) = W at *
  obtain ⟨x0, x1, -, -⟩ := two_cells n0
  obtain ⟨L, hL⟩ : ∃ L, L = terms.length := ⟨_, rfl⟩
  have HL := hid hL
  rw [← hL] at hW x1 htl ⊢
  have B0 := hid b0
  obtain ⟨r, hr⟩ : ∃ r, r = (σ t == 1) := ⟨_, rfl⟩
  rw [← hr]
  have Hr := hid hr
  clear i4 j4 b0 n0 hL hσ i1 j1 hr
  have Htl := hid htl
  go_enter Tryz.func43, Tryz.ntmps43
  go_wp2_with fail
  go_loopw [1] (fun v wr => ∃ k : Nat, v = .int .i64 (k : Nat) ∧ k < L ∧ Hid (σ k = σ t) ∧ wr = W) (fun v _ => (intOf v).toNat)
  case atStart => exact ⟨t, rfl, htl, hid rfl, rfl⟩
  case round =>
    obtain ⟨k, rfl, hk, hE, e⟩ := hrel
    subst e
    clear hW
    have hkt : k < terms.length := by rw [← HL.out]; exact hk
    have hki : (k : Int) < (L : Int) := by omega
    obtain ⟨b, o, rfl, hb, hc⟩ := J4.out (by omega)
    obtain ⟨c0, c1, c2, c3, c4, k0, k1, k2, k3, k4, hr⟩ := hc k hkt
    obtain ⟨pa, ca, bb, pn, nn, cn, e, hA, -⟩ := id hr
    injection e with e
    injection e with e
    injection e with f0 e
    injection e with f1 e
    injection e with f2 e
    injection e with f3 e
    injection e with f4 e
    subst f0 f1 f2 f3 f4
    clear e hr hc
    have k0 := (B0.out.cell (p := ⟨b, o + k * 5, none⟩) hb).trans k0
    have k1 := (B0.out.cell (p := ⟨b, o + k * 5 + 1, none⟩) hb).trans k1
    have k4 := (B0.out.cell (p := ⟨b, o + k * 5 + 4, none⟩) hb).trans k4
    have h9 := hid (HS.out.ite k hkt); have h3 := hid (HS.out.num k hkt); have h4 := hid (HS.out.app k hkt); have h1 := hid (HS.out.bool k hkt)
    clear k2 k3 hb
    generalize terms[k] = tm at *
    obtain ⟨op, al, nu, sy⟩ := tm
    dsimp only at *
    by_cases e9 : op = 9
    · subst e9
      obtain ⟨j, hj1, hj2, hj3, hj4⟩ := h9.out rfl
      obtain ⟨pa', ca', e, -, -, -, j5⟩ := hA
      injection e with e1 e2 e3
      subst e1 e3
      obtain ⟨ba, oa, rfl, hba, hca⟩ := j5 (by omega)
      have m1 := (B0.out.cell (p := ⟨ba, oa + 1, none⟩) hba).trans (hca 1 hj1)
      rw [hj2] at m1
      have hl1 : (1 : Int) < (al.length : Int) := by omega
      have hE2 : Hid (σ j = σ t) := hid (hj4.symm.trans hE.out)
      clear j5 hca hba h9 h3 h4 h1 hj2 hj4
      go_wp2_with fail
      go_roundw
      case rel => exact ⟨j, rfl, by omega, hE2, by trivial⟩
      case measure => simp [intOf]; omega
    · have t9 : (op == 9) = false := by simpa using e9
      by_cases e3 : op = 3 ∨ op = 12 ∨ op = 13
      · have hres : r = false := by rw [Hr.out, ← hE.out, h3.out e3]; rfl
        subst hres
        rcases e3 with rfl | rfl | rfl
        all_goals (clear h9 h3 h4 h1; go_wp2_with fail; go_ret; exact ⟨rfl, B0.out⟩)
      · have n3 : (op == 3) = false := by simp; omega
        have n12 : (op == 12) = false := by simp; omega
        have n13 : (op == 13) = false := by simp; omega
        by_cases e4 : op = 4
        · subst e4
          obtain ⟨j, hj1, hj2, hj3⟩ := h4.out rfl
          obtain ⟨bs, os, rfl, hbs, hcs⟩ := I4.out (by omega)
          obtain ⟨-, -, m2⟩ := hcs j hj1
          have m2 := (B0.out.cell (p := ⟨bs, os + j * 3 + 2, none⟩) hbs).trans m2
          rw [hj2] at k4
          have hji : (j : Int) < (syms.length : Int) := by omega
          have hres : r = (syms[j].sort == 1) := by rw [Hr.out, ← hE.out, hj3]
          clear h9 h3 h4 h1 hcs I4 HS hj3 hj2 hA Hr
          generalize syms[j].sort = so at *
          subst hres
          go_wp2_with fail
          go_quiet (fail)
          go_wp2
          go_ret
          exact ⟨rfl, below_drewN B0.out _⟩
        · have n4 : (op == 4) = false := by simpa using e4
          have hres : r = true := by rw [Hr.out, ← hE.out, h1.out e9 (by omega) (by omega) (by omega) e4]; rfl
          subst hres
          clear h9 h3 h4 h1
          go_wp2_with fail
          go_ret
          exact ⟨rfl, B0.out⟩
end Go.Proofs.YtckkpolikdnilaaGreatDoor
/- value.Eval where it answers: the loop. -/
namespace Go.Proofs.YtckkpolikdnilaaGreatDoor
open Go.RowKit Big Go.WideMaps

theorem wpList_append_run {P : Program} {w : World} {ops : Array Oper} {rest : List Oper} {o : Oper} {a : Act} {Q : Exit → Act → World → Prop} (hgd : o.guard = none) (s x : Operand) (t : TypeId)
    (ho : o.op = .call { callee := .builtin .append, args := #[s, x], argTypes := #[t, t] }) {v vx v' : Value} {w' : World} (hs : a.eval s = v) (hx : a.eval x = vx)
    (hr : (Builtin.append_ #[t, t] o.type #[v, vx]).run P w = .ok v' w') (h : wpList P ops Q rest (a.put o.dst v') w') : wpList P ops Q (o :: rest) a w := by
  refine wpList_plain hgd fun K hK => ?_
  unfold Oper.wp execOp
  simp only [ho, resolve, invoke, builtin, Sem.run_bind, Sem.run_pure, Result.andThen_ok, List.map_toArray, List.map_cons, List.map_nil, hs, hx, hr]
  exact hK _ _ h
def RVals (l : List Int) (w : World) (e : Ending) (w' : World) : Prop := ∃ v, e = .returned (.tuple #[v, .int .i64 0]) ∧ NumsIn w' v l ∧ NumsTold w' v l ∧ Below w.heap.size w w'
set_option maxRecDepth 100000 in
set_option maxHeartbeats 3200000 in
theorem Eval_ok (vs vt vm : Value) (syms : List Sy) (terms : List Tm) (ts : List Tb5) (w : World) (htab : Tb w.heap.size w) (hs : SyIn w vs syms) (ht : TmsIn w vt terms) (hm : TabsIn w vm ts) (hn : ∀ s ∈ syms, s.name.length ≤ 281474976710656) (ha : ∀ t ∈ terms, t.args.length ≤ 1048576) (he : plCheck syms terms = 0) (hl : syms.length ≤ ts.length)
    (hL : terms.length ≤ 1048576)
    (hfit : ∀ k (hk : k < terms.length), VlFit syms ts terms[k] (vlParts terms[k] (vlEval syms ts (terms.take k) [])) ∧ (∀ a ∈ terms[k].args, 0 ≤ a ∧ a < k) ∧ sz Big.W (vlOp syms ts terms[k] (vlParts terms[k] (vlEval syms ts (terms.take k) []))).natAbs ≤ 1099511627776) :
    Calls Tryz.prog 11 #[.agg #[vs, vt], .agg #[vm]] w (RVals (vlEval syms ts terms []) w) := by
  have Hs := hid hs; have Ht := hid ht; have Hm := hid hm; have Hfit := hid hfit; have Ha := hid ha
  obtain ⟨ps, cps, rfl, -, -, -, -⟩ := hs
  obtain ⟨pt, cpt, rfl, j1, j2, -, j4⟩ := ht
  obtain ⟨pm, cpm, rfl, -, -, -, -⟩ := hm
  have J4 := hid j4
  unfold maxLen at j2
  have b0 : Below w.heap.size w ((w.alloc (.cells #[.slice ps syms.length cps, .slice pt terms.length cpt] 25)).alloc (.cells #[.slice pm ts.length cpm] 28)) := (below1 w _).alloc (by simp) _
  have e0 : ((w.alloc (.cells #[.slice ps syms.length cps, .slice pt terms.length cpt] 25)).alloc (.cells #[.slice pm ts.length cpm] 28)).heap[w.heap.size]? = some (.cells #[.slice ps syms.length cps, .slice pt terms.length cpt] 25 (0, 0)) := alloc_keep (alloc_at _ _ _ rfl)
  have e1 : ((w.alloc (.cells #[.slice ps syms.length cps, .slice pt terms.length cpt] 25)).alloc (.cells #[.slice pm ts.length cpm] 28)).heap[w.heap.size + 1]? = some (.cells #[.slice pm ts.length cpm] 28 (0, 0)) := alloc_at _ _ _ (by rw [size_alloc])
  have HC := hid (Check_any _ _ _ syms terms _ (Nat.le_refl _) (tab_later htab b0) (Hs.out.below b0) (Ht.out.below b0) hn (fun t h => by have := ha t h; omega))
  rw [he] at HC
  have z0 : ((w.alloc (.cells #[.slice ps syms.length cps, .slice pt terms.length cpt] 25)).alloc (.cells #[.slice pm ts.length cpm] 28)).heap.size = w.heap.size + 1 + 1 := by rw [size_alloc, size_alloc]
  have B0 := hid b0; have E0 := hid e0; have E1 := hid e1; have Z0 := hid z0
  have t2 : decide (ts.length < syms.length) = false := by simp; omega
  obtain ⟨L, hLL⟩ : ∃ L, L = terms.length := ⟨_, rfl⟩
  have HLL := hid hLL
  have hL' : L ≤ 1048576 := by rw [hLL]; exact hL
  rw [← hLL] at B0 E0 E1 HC Z0 ⊢
  have Hmk := hid (fun W => RowQ.made W L hL')
  clear hn htab b0 he e0 e1 z0 hl j4 hLL ha hfit hL j1
  generalize hS : syms.length = L0 at *
  generalize hT : ts.length = L2 at *
  clear hS hT
  go_enter Tryz.func11, Tryz.ntmps11
  go_wp2_with fail
  refine HC.out.mono ?_
  rintro e w1 ⟨rfl, b1⟩
  have x0 := two_cells ((b1.block w.heap.size (by have := Z0.out; omega)).trans E0.out)
  have x1 : w1.cell? ⟨w.heap.size + 1, 0, none⟩ = some (.slice pm L2 cpm) := by
    have h := (b1.block (w.heap.size + 1) (by have := Z0.out; omega)).trans E1.out
    simp [World.cell?, h]
  obtain ⟨x0, x2, -, -⟩ := x0
  have zw : Hid (w.heap.size + 1 < w1.heap.size) := hid (by have := b1.size; have := Z0.out; omega)
  have B1 := hid (bel_go b1 B0.out)
  clear HC b1 B0 E0 E1 Z0
  have hmk := (Hmk.out w1).1
  have HQ := hid (Hmk.out w1).2
  have b2 := below1 w1 (.cells (madeCells (Value.agg #[.bool false, .slice none 0 0]).cells (L * 2)) 44)
  generalize hW : w1.alloc (.cells (madeCells (Value.agg #[.bool false, .slice none 0 0]).cells (L * 2)) 44) = W at *
  have x0' := (b2.cell (p := ⟨w.heap.size, 0, none⟩) (by have := zw.out; show w.heap.size < _; omega)).trans x0
  have x1' := (b2.cell (p := ⟨w.heap.size + 1, 0, none⟩) zw.out).trans x1
  have x2' := (b2.cell (p := ⟨w.heap.size, 1, none⟩) (by have := zw.out; show w.heap.size < _; omega)).trans x2
  have B2 := hid (bel_go b2 B1.out)
  obtain ⟨gq, hgq⟩ : ∃ gq, gq = w1.heap.size := ⟨_, rfl⟩
  rw [← hgq] at HQ hmk zw
  have Hzq : Hid (w.heap.size + 1 < gq) := zw
  clear b2 hW Hmk B1 hgq zw
  go_wp2_with fail
  go_loopw [7, 30] (fun o i wr => ∃ (k : Nat) (cs : List Value), k ≤ L ∧ i = .int .i64 (k : Nat) ∧ o = .slice (some ⟨gq, 0, none⟩) k L ∧ Hid (RowQ wr gq k L cs) ∧ Hid (VlCells wr (vlEval syms ts (terms.take k) []) cs) ∧ Hid (TCells wr (vlEval syms ts (terms.take k) []) cs) ∧ Hid (Below w.heap.size w wr) ∧ wr.cell? ⟨w.heap.size, 0, none⟩ = some (.slice ps L0 cps) ∧ wr.cell? ⟨w.heap.size + 1, 0, none⟩ = some (.slice pm L2 cpm)) (fun _ i _ => L - (intOf i).toNat)
  case atStart => exact ⟨0, [], Nat.zero_le _, rfl, rfl, HQ, hid rfl, hid rfl, B2, x0', x1'⟩
  case round =>
    obtain ⟨k, cs, hk, rfl, rfl, hQ, hC, hT, hB, y0, y1⟩ := hrel
    clear x0 x1 x2 x0' x1' x2' hmk HQ B2
    by_cases hlt : k < L
    · have hkt : k < terms.length := by rw [← HLL.out]; exact hlt
      obtain ⟨b, o, rfl, hb, hc⟩ := J4.out (by omega)
      obtain ⟨c0, c1, c2, c3, c4, k0, k1, k2, k3, k4, hr⟩ := hc k hkt
      obtain ⟨pa, ca, bb, pn, nn, cn, e, hA, hN⟩ := id hr
      injection e with e
      injection e with e
      injection e with f0 e
      injection e with f1 e
      injection e with f2 e
      injection e with f3 e
      injection e with f4 e
      subst f0 f1 f2 f3 f4
      clear e
      have k0 := (hB.out.cell (p := ⟨b, o + k * 5, none⟩) hb).trans k0
      have k1 := (hB.out.cell (p := ⟨b, o + k * 5 + 1, none⟩) hb).trans k1
      have k2 := (hB.out.cell (p := ⟨b, o + k * 5 + 2, none⟩) hb).trans k2
      have k3 := (hB.out.cell (p := ⟨b, o + k * 5 + 3, none⟩) hb).trans k3
      have k4 := (hB.out.cell (p := ⟨b, o + k * 5 + 4, none⟩) hb).trans k4
      have hin := hid (hQ.out.in hC.out (by rw [vlEval_len]; simp; omega))
      obtain ⟨hf, harg, hsz⟩ := Hfit.out k hkt
      have hal := Ha.out terms[k] (List.getElem_mem hkt)
      have HP := hid (fun w' (hb' : Below wr.heap.size wr w') => partsOf_any terms[k] _ _ (vlEval syms ts (terms.take k) []) w' (hr.below (bel_go hb' hB.out)) (hin.out.below hb') (fun a h => by have h2 := harg a h; rw [vlEval_len]; simp; omega) hal)
      have hf := hid hf; have hsz := hid hsz
      have b5 := below1 wr (.cells #[.int .i64 terms[k].op, .slice pa terms[k].args.length ca, .bool bb, .slice pn nn cn, .int .i64 terms[k].sym] 71)
      have n5 := heap_alloc_new wr (.cells #[.int .i64 terms[k].op, .slice pa terms[k].args.length ca, .bool bb, .slice pn nn cn, .int .i64 terms[k].sym] 71)
      have z5 := size_alloc wr (.cells #[.int .i64 terms[k].op, .slice pa terms[k].args.length ca, .bool bb, .slice pn nn cn, .int .i64 terms[k].sym] 71)
      generalize hW5 : wr.alloc (.cells #[.int .i64 terms[k].op, .slice pa terms[k].args.length ca, .bool bb, .slice pn nn cn, .int .i64 terms[k].sym] 71) = W5 at *
      have sq : w.heap.size + 1 < W5.heap.size := by have := hQ.out.lt; have := Hzq.out; omega
      have s2 : wr.heap.size < W5.heap.size := by omega
      have y0 := (b5.cell (p := ⟨w.heap.size, 0, none⟩) (by have := hQ.out.lt; have := Hzq.out; show w.heap.size < _; omega)).trans y0
      have y1 := (b5.cell (p := ⟨w.heap.size + 1, 0, none⟩) (by have := hQ.out.lt; have := Hzq.out; show w.heap.size + 1 < _; omega)).trans y1
      have tt : W5.cell? ⟨wr.heap.size, 0, none⟩ = some (.int .i64 terms[k].op) ∧ W5.cell? ⟨wr.heap.size, 1, none⟩ = some (.slice pa terms[k].args.length ca) ∧ W5.cell? ⟨wr.heap.size, 2, none⟩ = some (.bool bb) ∧ W5.cell? ⟨wr.heap.size, 3, none⟩ = some (.slice pn nn cn) ∧ W5.cell? ⟨wr.heap.size, 4, none⟩ = some (.int .i64 terms[k].sym) := by simp [World.cell?, n5]
      obtain ⟨t0, t1, t2', t3, t4⟩ := tt
      have B5 := hid b5
      have HP := hid (fun w' (hb' : Below W5.heap.size W5 w') => HP.out w' (b5.trans (hb'.mono b5.size)))
      have HN := hid hN
      clear hb hc hA hN harg hal n5 b5 hin hr
      go_wp2_with fail
      clear k0 k1 k2 k3 k4
      go_region_held3 (fun w' => w'.cell? ⟨w.heap.size, 0, none⟩ = some (.slice ps L0 cps) ∧ w'.cell? ⟨w.heap.size + 1, 0, none⟩ = some (.slice pm L2 cpm) ∧ w'.cell? ⟨wr.heap.size, 0, none⟩ = some (.int .i64 terms[k].op) ∧ w'.cell? ⟨wr.heap.size, 1, none⟩ = some (.slice pa terms[k].args.length ca) ∧ w'.cell? ⟨wr.heap.size, 2, none⟩ = some (.bool bb) ∧ w'.cell? ⟨wr.heap.size, 3, none⟩ = some (.slice pn nn cn) ∧ w'.cell? ⟨wr.heap.size, 4, none⟩ = some (.int .i64 terms[k].sym))
        (first | (go_split_ands; (try dsimp only); (repeat' apply And.intro) <;> first | assumption | exact Pair.drew ‹_› | exact Pair.below ‹_› hb9 | exact Pair.below ‹_› hb8 | exact Pair.below ‹_› hb7 | exact Pair.below ‹_› hb6 | exact Pair.below ‹_› hb5 | exact Pair.below ‹_› hb4 | exact Pair.below ‹_› hb3 | exact Pair.below ‹_› hb2 | exact Pair.below ‹_› hb1 | exact (hb9.cell (by first | omega | (simp; omega) | (simp; done))).trans ‹_› | exact (hb8.cell (by first | omega | (simp; omega) | (simp; done))).trans ‹_› | exact (hb7.cell (by first | omega | (simp; omega) | (simp; done))).trans ‹_› | exact (hb6.cell (by first | omega | (simp; omega) | (simp; done))).trans ‹_› | exact (hb5.cell (by first | omega | (simp; omega) | (simp; done))).trans ‹_› | exact (hb4.cell (by first | omega | (simp; omega) | (simp; done))).trans ‹_› | exact (hb3.cell (by first | omega | (simp; omega) | (simp; done))).trans ‹_› | exact (hb2.cell (by first | omega | (simp; omega) | (simp; done))).trans ‹_› | exact (hb1.cell (by first | omega | (simp; omega) | (simp; done))).trans ‹_› | exact Pair.set1 (Pair.set0 ‹_› _) _ _ _ | exact (cell_stored _ (by first | (dsimp only; omega) | (simp; done) | (simp; omega)) _ _).trans ‹_› | exact Pair.drew (Pair.below ‹_› (below1 _ _)) | exact Pair.below ‹_› (below1 _ _) | exact Pair.far ‹_› (by omega) hb1 | exact Pair.new .. | exact Pair.new1 .. | exact Pair.new2 .. | (go_keep; done)) | (go_keep; done))
        (first | (go_at_call 28; refine (HP.out _ ?_).mono ?_; (repeat (first | exact Below.refl _ _ | apply Below.drew)); rintro e w6 ⟨v6, rfl, ho6, hb1⟩; have hz1 : W5.heap.size ≤ w6.heap.size := (by have := hb1.size; simp at this; omega); have hi6 := ho6.in; obtain ⟨p6, c6, rfl, -⟩ := hi6))
      have b16 : Below W5.heap.size W5 w6 := ((Below.refl W5.heap.size W5).drew).trans hb1
      have b7 := below1 w6 (.cells #[.slice ps L0 cps, .slice pm L2 cpm, .int .i64 terms[k].op, .slice pa terms[k].args.length ca, .bool bb, .slice pn nn cn, .int .i64 terms[k].sym, .slice p6 (vlParts terms[k] (vlEval syms ts (List.take k terms) [])).length c6] 80)
      have n7 := heap_alloc_new w6 (.cells #[.slice ps L0 cps, .slice pm L2 cpm, .int .i64 terms[k].op, .slice pa terms[k].args.length ca, .bool bb, .slice pn nn cn, .int .i64 terms[k].sym, .slice p6 (vlParts terms[k] (vlEval syms ts (List.take k terms) [])).length c6] 80)
      generalize hW7 : w6.alloc (.cells #[.slice ps L0 cps, .slice pm L2 cpm, .int .i64 terms[k].op, .slice pa terms[k].args.length ca, .bool bb, .slice pn nn cn, .int .i64 terms[k].sym, .slice p6 (vlParts terms[k] (vlEval syms ts (List.take k terms) [])).length c6] 80) = W7 at *
      have b57 : Below W5.heap.size W5 W7 := b16.trans (b7.mono hz1)
      have bwr7 : Below wr.heap.size wr W7 := B5.out.trans (b57.mono B5.out.size)
      have bw7 : Below w.heap.size w W7 := bel_go bwr7 hB.out
      have hM : MeanAt W7 w6.heap.size syms ts terms[k] (vlParts terms[k] (vlEval syms ts (terms.take k) [])) := ⟨_, _, _, _, _, _, n7, Hs.out.below bw7, Hm.out.below bw7, HN.out.below bw7, (ho6.in).below b7⟩
      have HV := hid (value_any w6.heap.size W7 syms ts terms[k] _ hM hf.out)
      have y0 := (b57.cell (p := ⟨w.heap.size, 0, none⟩) (by show w.heap.size < _; omega)).trans y0
      have y1 := (b57.cell (p := ⟨w.heap.size + 1, 0, none⟩) sq).trans y1
      have HQ7 := hid (hQ.out.below bwr7); have HC7 := hid (hC.out.below bwr7); have HT7 := hid (hT.out.below bwr7); have HB7 := hid bw7
      have s7 : w.heap.size + 1 < W7.heap.size := by have := b57.size; omega
      have Hnext := hid (show vlEval syms ts (terms.take (k + 1)) [] = vlEval syms ts (terms.take k) [] ++ [vlOp syms ts terms[k] (vlParts terms[k] (vlEval syms ts (terms.take k) []))] from by rw [List.take_succ_eq_append_getElem hkt, vlEval_snoc])
      generalize vlOp syms ts terms[k] (vlParts terms[k] (vlEval syms ts (terms.take k) [])) = z at *
      clear hM bw7 bwr7 b57 n7 b7 b16 hz1 ho6 hb1 hW5 t0 t1 t2' t3 t4 s2 HP hQ hC hT hB B5 hW7 z5
      go_wp2_with fail
      refine HV.out.mono ?_
      rintro e w8 ⟨v8, rfl, i8, b8⟩
      obtain ⟨p8, l8, c8, rfl, i8⟩ := i8.shape
      have b9 := below1 w8 (.cells #[.bool (decide (z < 0)), .slice p8 l8 c8] 44)
      have n9 := heap_alloc_new w8 (.cells #[.bool (decide (z < 0)), .slice p8 l8 c8] 44)
      have hnews : ∀ j u, ([.bool (decide (z < 0)), .slice p8 l8 c8] : List Value)[j]? = some u → (w8.alloc (.cells #[.bool (decide (z < 0)), .slice p8 l8 c8] 44)).cell? ((⟨w8.heap.size, 0, none⟩ : Addr).add j) = some u := by
        intro j u hj
        rw [Go.WideShapes.add_plain, Nat.zero_add, cell_of_row _ _ _ _ _ _ n9]
        simpa using hj
      have b79 := bel_go b9 b8
      have HQ9 := HQ7.out.below b79
      obtain ⟨w10, hrun, hQ10, hz10, ho10, hg10⟩ := HQ9.push hlt (decide (z < 0)) p8 l8 c8 ⟨w8.heap.size, 0, none⟩ hnews
      have hgq := HQ7.out.lt
      have HC10 := hid (VlCells.offQ HQ9 (Nat.le_of_eq hz10.symm) (fun k _ hk => ho10 k hk) ((HC7.out.below b79).snoc ((i8.raw hsz.out).below b9)))
      have HT10 := hid (TCells.offQ HQ9 (Nat.le_of_eq hz10.symm) (fun k _ hk => ho10 k hk) ((HT7.out.below b79).snoc (i8.below b9)))
      have HB10 := hid ((bel_go b79 HB7.out).grown hg10 (by have := b79.size; omega) (fun g hg => by cases hg; have := Hzq.out; omega))
      have HQ10 := hid hQ10
      have y0 := (World.cell?_of_block (w := w8.alloc (.cells #[.bool (decide (z < 0)), .slice p8 l8 c8] 44)) (a := ⟨w.heap.size, 0, none⟩) (ho10 _ (by have := Hzq.out; show w.heap.size ≠ gq; omega))).trans ((b79.cell (p := ⟨w.heap.size, 0, none⟩) (by show w.heap.size < _; omega)).trans y0)
      have y1 := (World.cell?_of_block (w := w8.alloc (.cells #[.bool (decide (z < 0)), .slice p8 l8 c8] 44)) (a := ⟨w.heap.size + 1, 0, none⟩) (ho10 _ (by have := Hzq.out; show w.heap.size + 1 ≠ gq; omega))).trans ((b79.cell (p := ⟨w.heap.size + 1, 0, none⟩) s7).trans y1)
      clear hQ10 hz10 ho10 hg10 HQ9 b79 hnews n9 b9 i8 b8 HV
      go_wp2_with (at_builtin; refine wpList_append_run rfl _ _ 32 rfl rfl rfl hrun ?_)
      go_roundw
      case rel => exact ⟨k + 1, _, by omega, by go_num, rfl, HQ10, hid (by rw [Hnext.out]; exact HC10.out), hid (by rw [Hnext.out]; exact HT10.out), HB10, y0, y1⟩
      case measure => simp [intOf]; omega
    · obtain rfl : k = L := by omega
      have hin := hid (hQ.out.in hC.out (by rw [vlEval_len]; simp; have := HLL.out; omega))
      have hto := hid (hQ.out.told hT.out (by rw [vlEval_len]; simp; have := HLL.out; omega))
      have hfin : Hid (terms.take k = terms) := hid (by rw [HLL.out, List.take_length])
      go_wp2_with fail
      go_ret2
      exact ⟨_, rfl, by have := hin.out; rw [hfin.out] at this; exact this, by have := hto.out; rw [hfin.out] at this; exact this, hB.out⟩
end Go.Proofs.YtckkpolikdnilaaGreatDoor
