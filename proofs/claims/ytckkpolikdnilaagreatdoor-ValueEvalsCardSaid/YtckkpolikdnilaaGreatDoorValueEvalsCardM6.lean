/- Texts put together: VlOne_or, VlOne_add, VlOne, VlOwn, VlValues, VlREval, PlChecks, VlEvals, Laid. -/
import Derived.Test.YtckkpolikdnilaaGreatDoorValueEvalsCardM5
import Derived.Deep.RegionHeld3
import Derived.Deep.DeepCutAuto
import Derived.Test.YtckkpolikdnilaaGreatDoorCards
import Derived.Test.YtckkpolikdnilaaGreatDoorTie
import Derived.WalkKit
import Derived.ProofKit
import Derived.OpenShut
import Derived.Deep.DeepHandedRow
import Derived.Lib.LaidTab
/- elenchusref05.One of Op 7. -/
namespace Go.Proofs.YtckkpolikdnilaaGreatDoor
open Go.RowKit Big Go.WideMaps

set_option maxRecDepth 100000 in
set_option maxHeartbeats 12800000 in
theorem One_or (vs v0 vm vt vk : Value) (syms : List Sy) (ts : List Tb5) (t : Tm) (known : List Int) (w : World) (hs : SyIn w vs syms) (hv : ∃ p n c, v0 = .slice p n c) (hm : TabsIn w vm ts) (h0 : TmRaw w vt t) (h1 : NumsIn w vk known) (ha : ∀ a ∈ t.args, 0 ≤ a ∧ a < known.length) (hn : t.args.length ≤ 1048576)
    (hop : t.op = 7) (rr : Int) (hrr : rr = vlTruth (decide ((t.args.map (vlAt known)).countP (· != 0) = (t.args.map (vlAt known)).length) || decide (0 < (t.args.map (vlAt known)).countP (· != 0)))) :
    Calls Tryz.prog 53 #[.agg #[vs, v0], .agg #[vm], vt, vk] w (RRaw rr w) := by
  have Hrr := hid hrr
  clear hrr
  obtain ⟨i0, hi, hz0, hz1, hz2⟩ := info_parts infoNum
  obtain ⟨p9, n9, c9, rfl⟩ := hv
  obtain ⟨pa, ca, bb, pm, nm, cm, rfl, hA, hN⟩ := h0
  obtain ⟨pa', ca', e, j1, j2, -, j4⟩ := hA
  injection e with e1 e2 e3
  subst e1 e3
  clear e2
  have J4 := hid j4
  have H1 := hid h1
  have Ha := hid ha
  have HS := hid hs; have HM := hid hm; have HN := hid hN
  obtain ⟨pk, ck, rfl, k1, k2, -, k4⟩ := h1
  obtain ⟨ps, cps, rfl, s1, s2, -, -⟩ := hs
  obtain ⟨pq, cpq, rfl, q1, q2, -, -⟩ := hm
  have K4 := hid k4
  unfold maxLen at j2 k2 s2 q2
  obtain ⟨W, hW⟩ : ∃ W, W = ((((w.alloc (.cells #[.slice ps syms.length cps, .slice p9 n9 c9] 25)).alloc (.cells #[.slice pq ts.length cpq] 28)).alloc (.cells #[.int .i64 t.op, .slice pa t.args.length ca, .bool bb, .slice pm nm cm, .int .i64 t.sym] 71)).alloc (.cells #[.bool false, .slice none 0 0] 44)) := ⟨_, rfl⟩
  have b0 : Below w.heap.size w W := by rw [hW]; exact (((below1 w _).alloc (by simp) _).alloc (by simp; omega) _).alloc (by simp; omega) _
  have e0 : W.heap[w.heap.size]? = some (.cells #[.slice ps syms.length cps, .slice p9 n9 c9] 25 (0, 0)) := by rw [hW]; exact alloc_keep (alloc_keep (alloc_keep (alloc_at _ _ _ rfl)))
  have e1 : W.heap[w.heap.size + 1]? = some (.cells #[.slice pq ts.length cpq] 28 (0, 0)) := by rw [hW]; exact alloc_keep (alloc_keep (alloc_at _ _ _ (by rw [size_alloc])))
  have e2 : W.heap[w.heap.size + 1 + 1]? = some (.cells #[.int .i64 t.op, .slice pa t.args.length ca, .bool bb, .slice pm nm cm, .int .i64 t.sym] 71 (0, 0)) := by rw [hW]; exact alloc_keep (alloc_at _ _ _ (by rw [size_alloc, size_alloc]))
  have e3 : W.heap[w.heap.size + 1 + 1 + 1]? = some (.cells #[.bool false, .slice none 0 0] 44 (0, 0)) := by rw [hW]; exact alloc_at _ _ _ (by rw [size_alloc, size_alloc, size_alloc])
  have z3 : W.heap.size = w.heap.size + 1 + 1 + 1 + 1 := by rw [hW, size_alloc, size_alloc, size_alloc, size_alloc]
  have x1 : W.cell? ⟨w.heap.size + 1 + 1, 1, none⟩ = some (.slice pa t.args.length ca) := rec5_cell e2
  have B0 := hid b0; have E0 := hid e0; have E1 := hid e1; have E2 := hid e2; have E3 := hid e3; have Z3 := hid z3
  have Hlp : Hid ((vlParts t known).length = t.args.length) := hid (by simp [vlParts])
  unfold vlParts at *
  clear j4 k4 ha b0 e0 e1 e2 e3 z3 hN s1 s2 q1 q2
  obtain ⟨op, al, num, sym⟩ := t
  dsimp only at *
  subst hop
  go_enter Tryz.func53, Tryz.ntmps53
  go_upto_region 2 with fail
  rw [← hW]
  clear hW
  go_wp2_with fail
  have hzw : w.heap.size < W.heap.size := by have := Z3.out; omega
  go_loopw [9, 20] (fun o i wr => ∃ (k : Nat) (cs : List Value), k ≤ al.length ∧ i = .int .i64 (k : Nat) ∧ wr.ownsRow W.heap.size 44 2 o k cs ∧ Hid (VlCells w ((al.take k).map (vlAt known)) cs) ∧ Hid (Below W.heap.size W wr)) (fun _ i _ => al.length - (intOf i).toNat)
  case atStart => exact ⟨0, [], Nat.zero_le _, rfl, World.ownsRow_nil .., hid rfl, hid (Below.refl _ _)⟩
  case round =>
    obtain ⟨k, cs, hk, rfl, ho, hC, hB⟩ := hrel
    by_cases hlt : k < al.length
    · have hbw := hid (bel_go hB.out B0.out)
      obtain ⟨ba, oa, rfl, hba, hca⟩ := J4.out (by omega)
      have ka := (hbw.out.cell (p := ⟨ba, oa + k, none⟩) hba).trans (hca k hlt)
      obtain ⟨hj0, hj1⟩ := Ha.out al[k] (List.getElem_mem hlt)
      obtain ⟨j, hj⟩ : ∃ j : Nat, al[k] = (j : Nat) := ⟨al[k].toNat, by omega⟩
      have hjk : j < known.length := by omega
      have hjk' : (j : Int) < (known.length : Int) := by omega
      obtain ⟨bk, ok, rfl, hbk, hck⟩ := K4.out (by omega)
      obtain ⟨n, s, c0, c1, hr⟩ := hck j hjk
      obtain ⟨q, d, g, rfl⟩ := hr.shape
      have m0 := (hbw.out.cell (p := ⟨bk, ok + j * 2, none⟩) hbk).trans c0
      have m1 := (hbw.out.cell (p := ⟨bk, ok + j * 2 + 1, none⟩) hbk).trans c1
      rw [hj] at ka
      have Htk := hid (show (al.take (k+1)).map (vlAt known) = (al.take k).map (vlAt known) ++ [known[j]] from by rw [List.take_succ_eq_append_getElem hlt, List.map_append, List.map_singleton, hj, vlAt_nat known j hjk])
      have Hr := hid hr
      have bn := below1 wr (.cells #[.bool n, .slice q d g] 44)
      have ho4 := ownsRow_later ho bn
      have hz4 := size_alloc wr (.cells #[.bool n, .slice q d g] 44)
      have hnew := heap_alloc_new wr (.cells #[.bool n, .slice q d g] 44)
      have hnews : ∀ j u, ([.bool n, .slice q d g] : List Value)[j]? = some u → (wr.alloc (.cells #[.bool n, .slice q d g] 44)).cell? ((⟨wr.heap.size, 0, none⟩ : Addr).add j) = some u := by
        intro j u hj
        rw [Go.WideShapes.add_plain, Nat.zero_add, cell_of_row _ _ _ _ _ _ hnew]
        simpa using hj
      have hlw := hB.out.size
      have Bn := hid bn
      clear hck hca c0 c1 hr hj0 hj1 hj hba hbk bn ho hnew
      go_wp2_with (at_builtin; refine wpList_append_own _ rfl _ _ 32 rfl W.heap.size 44 i0 _ 2 32 Tryz.underlying32 hi hz0 hz1 hz2 rfl (by decide) _ k _ rfl ho4 ⟨wr.heap.size, 0, none⟩ 1 1 [.bool n, .slice q d g] rfl rfl hnews (by intro u hu; simp at hu; rcases hu with rfl | rfl <;> rfl) (by simp [maxLen]; omega) (by omega) (by omega) ?_; intro v5 w5 ho5 hg5 _)
      go_roundw
      case rel => exact ⟨k + 1, _, by omega, by go_num, ho5, hid (by rw [Htk.out]; exact hC.out.snoc Hr.out), hid ((hB.out.trans (Bn.out.mono hlw)).grown hg5 (by omega) (fun g hg => (World.ownsRow.lt ho4 g hg).1))⟩
      case measure => simp [intOf] <;> omega
    · obtain rfl : k = al.length := by omega
      have hbw := hid (bel_go hB.out B0.out)
      have hown : NumsOwn W.heap.size wr _ (al.map (vlAt known)) := ⟨cs, by rw [List.length_map]; exact ho, by have := hC.out; rw [List.take_length] at this; exact this.below hbw.out⟩
      obtain ⟨po, co, rfl⟩ := ownsRow_shape ho
      have HL := hid hown.in
      have HO := hid (fun k (h : (Value.slice po al.length co).ownBlock = some k) => (World.ownsRow.lt ho k h).1)
      have F0 := hid ((hB.out.block w.heap.size (by have := Z3.out; omega)).trans E0.out)
      have F1 := hid ((hB.out.block (w.heap.size + 1) (by have := Z3.out; omega)).trans E1.out)
      have F2 := hid ((hB.out.block (w.heap.size + 1 + 1) (by have := Z3.out; omega)).trans E2.out)
      have HP : Hid (Pair wr (w.heap.size + 1 + 1 + 1) 44) := hid ⟨_, _, _, _, (hB.out.block (w.heap.size + 1 + 1 + 1) (by have := Z3.out; omega)).trans E3.out⟩
      have hsz : w.heap.size + 1 + 1 + 1 < wr.heap.size := by have := Z3.out; have := hB.out.size; omega
      have hop : wr.cell? ⟨w.heap.size + 1 + 1, 0, none⟩ = some (.int .i64 7) := by have := F2.out; simp [World.cell?, this]
      generalize al.map (vlAt known) = l at *
      clear x1 hown ho hC B0 E0 E1 E2 E3 H1 K4 J4 Ha
      have Hlp2 : Hid (l.length = al.length) := Hlp
      rw [← Hlp2.out] at HL ⊢
      clear Hlp
      have hll : l.length ≤ 1048576 := by have := Hlp2.out; omega
      obtain ⟨L, hL⟩ : ∃ L, L = l.length := ⟨_, rfl⟩
      have HLL := hid hL
      rw [← hL] at HL hll Hrr
      clear hL Hlp2
      go_upto_region 30 with fail
      rw [← HLL.out]
      go_wp2_with fail
      have Hop := hid hop
      clear hop
      obtain ⟨wo, rfl⟩ : ∃ wo, wo = wr := ⟨_, rfl⟩
      go_loopw [12, 124] (fun n i wr => ∃ k : Nat, k ≤ L ∧ i = .int .i64 (k : Nat) ∧ n = .int .i64 (((l.take k).countP (· != 0) : Nat)) ∧ Hid (Below wo.heap.size wo wr)) (fun _ i _ => L - (intOf i).toNat)
      case atStart => exact ⟨0, Nat.zero_le _, rfl, by simp, hid (Below.refl _ _)⟩
      case round =>
        obtain ⟨k, hk, rfl, rfl, hB2⟩ := hrel
        have hcn : (l.take k).countP (· != 0) ≤ 1048576 := Nat.le_trans List.countP_le_length (by rw [List.length_take]; omega)
        by_cases hlt : k < L
        · have hkl : k < l.length := by rw [← HLL.out]; exact hlt
          have hat := HL.out.at k hkl
          obtain ⟨b5, o5, c5, x5, q5, d5, g5, e5, hb5, n0, n1, n2⟩ := hat
          rw [← HLL.out] at e5
          injection e5 with f1 _ f3
          subst f1 f3
          have m0 := (hB2.out.cell (p := ⟨b5, o5 + k * 2, none⟩) hb5).trans n0
          have m1 := (hB2.out.cell (p := ⟨b5, o5 + k * 2 + 1, none⟩) hb5).trans n1
          have Hsure := hid (sure_any _ _ wr (n2.below hB2.out))
          have Hct : Hid ((l.take (k + 1)).countP (· != 0) = (l.take k).countP (· != 0) + if (l[k] != 0) then 1 else 0) := hid (by
            rw [List.take_succ_eq_append_getElem hkl, List.countP_append, List.countP_singleton])
          have hlt' : (k : Int) < (L : Int) := by omega
          generalize (l.take k).countP (· != 0) = cn at *
          generalize (l[k] != 0) = bz at *
          clear n0 n1 n2 hb5
          go_wp2_with fail
          refine Hsure.out.mono ?_
          rintro e w1 ⟨rfl, b1⟩
          have hB3 := hid (bel_go b1 hB2.out)
          clear Hsure b1 m0 m1
          cases bz
          · go_wp2_with fail
            go_roundw
            case rel => exact ⟨k + 1, by omega, by go_num, by rw [Hct.out]; rfl, hB3⟩
            case measure => simp [intOf] <;> omega
          · go_wp2_with fail
            go_roundw
            case rel => exact ⟨k + 1, by omega, by go_num, by rw [Hct.out]; simp, hB3⟩
            case measure => simp [intOf] <;> omega
        · obtain rfl : k = L := by omega
          have hfin : Hid (l.take k = l) := hid (by rw [HLL.out, List.take_length])
          rw [hfin.out] at hcn ⊢
          have hop2 := (hB2.out.cell (p := ⟨w.heap.size + 1 + 1, 0, none⟩) (by show w.heap.size + 1 + 1 < _; omega)).trans Hop.out
          have HP2 := hid (HP.out.below hB2.out)
          have hbw2 := hid (bel_go hB2.out hbw.out)
          generalize l.countP (· != 0) = cn at *
          clear hB2 hbw HP Hop
          by_cases hx : cn = k
          ·
            have t1 : ((cn : Int) == (k : Int)) = true := by simp [hx]
            have HX := eq_true hx
            obtain rfl : rr = vlTruth true := by rw [Hrr.out]; simp only [HX, decide_true, Bool.true_or]
            have Hc := hid (rtruth_any true wr)
            go_wp2_with fail
            refine Hc.out.mono ?_
            rintro e w2 ⟨v2, rfl, hi2, b2⟩
            obtain ⟨p2, n2, c2, rfl, hi2⟩ := hi2.shape
            have hpr := hid (HP2.out.below b2)
            have hq := hpr.out.cells
            obtain ⟨_, _, q0, q1, q2, q3⟩ := hq
            have Hi := hid hi2; have Hb := hid (bel_go b2 hbw2.out)
            clear hi2 b2 Hc
            go_wp2
            exact bodyPost_ret (v := .agg #[.bool (decide (vlTruth true < 0)), .slice p2 n2 c2]) (by simp [results, Tryz.results53, go_sem, q0, q1]) rfl ⟨_, rfl, (IntAt.raw (Hi.out.stored hpr.out _ _ _ _) (truth_fit _)), Below.stored Hb.out (by omega) _ _⟩
          · by_cases hy : 0 < cn
            ·
              have t1 : ((cn : Int) == (k : Int)) = false := by simp; omega
              have t2 : decide ((0 : Int) < (cn : Int)) = true := by simp; omega
              have HX := eq_false hx
              have HY := eq_true hy
              obtain rfl : rr = vlTruth true := by rw [Hrr.out]; simp only [HX, HY, decide_true, decide_false, Bool.or_true]
              have Hc := hid (rtruth_any true wr)
              go_wp2_with fail
              refine Hc.out.mono ?_
              rintro e w2 ⟨v2, rfl, hi2, b2⟩
              obtain ⟨p2, n2, c2, rfl, hi2⟩ := hi2.shape
              have hpr := hid (HP2.out.below b2)
              have hq := hpr.out.cells
              obtain ⟨_, _, q0, q1, q2, q3⟩ := hq
              have Hi := hid hi2; have Hb := hid (bel_go b2 hbw2.out)
              clear hi2 b2 Hc
              go_wp2
              exact bodyPost_ret (v := .agg #[.bool (decide (vlTruth true < 0)), .slice p2 n2 c2]) (by simp [results, Tryz.results53, go_sem, q0, q1]) rfl ⟨_, rfl, (IntAt.raw (Hi.out.stored hpr.out _ _ _ _) (truth_fit _)), Below.stored Hb.out (by omega) _ _⟩
            ·
              have t1 : ((cn : Int) == (k : Int)) = false := by simp; omega
              have t2 : decide ((0 : Int) < (cn : Int)) = false := by simp; omega
              have HX := eq_false hx
              have HY := eq_false hy
              obtain rfl : rr = vlTruth false := by rw [Hrr.out]; simp only [HX, HY, decide_false, Bool.or_false]
              have Hc := hid (rtruth_any false wr)
              go_wp2_with fail
              refine Hc.out.mono ?_
              rintro e w2 ⟨v2, rfl, hi2, b2⟩
              obtain ⟨p2, n2, c2, rfl, hi2⟩ := hi2.shape
              have hpr := hid (HP2.out.below b2)
              have hq := hpr.out.cells
              obtain ⟨_, _, q0, q1, q2, q3⟩ := hq
              have Hi := hid hi2; have Hb := hid (bel_go b2 hbw2.out)
              clear hi2 b2 Hc
              go_wp2
              exact bodyPost_ret (v := .agg #[.bool (decide (vlTruth false < 0)), .slice p2 n2 c2]) (by simp [results, Tryz.results53, go_sem, q0, q1]) rfl ⟨_, rfl, (IntAt.raw (Hi.out.stored hpr.out _ _ _ _) (truth_fit _)), Below.stored Hb.out (by omega) _ _⟩
end Go.Proofs.YtckkpolikdnilaaGreatDoor
/- elenchusref05.One of Op 12. -/
namespace Go.Proofs.YtckkpolikdnilaaGreatDoor
open Go.RowKit Big Go.WideMaps

set_option maxRecDepth 100000 in
set_option maxHeartbeats 12800000 in
theorem One_add (vs v0 vm vt vk : Value) (syms : List Sy) (ts : List Tb5) (t : Tm) (known : List Int) (w : World) (hs : SyIn w vs syms) (hv : ∃ p n c, v0 = .slice p n c) (hm : TabsIn w vm ts) (h0 : TmRaw w vt t) (h1 : NumsIn w vk known) (ha : ∀ a ∈ t.args, 0 ≤ a ∧ a < known.length) (hn : t.args.length ≤ 1048576)
    (hop : t.op = 12) (hsum : ∀ k, k ≤ (t.args.map (vlAt known)).length → sz Big.W (vlSum ((t.args.map (vlAt known)).take k)).natAbs ≤ 549755813888) (rr : Int) (hrr : rr = vlSum (t.args.map (vlAt known))) :
    Calls Tryz.prog 53 #[.agg #[vs, v0], .agg #[vm], vt, vk] w (RRaw rr w) := by
  have Hrr := hid hrr
  clear hrr
  obtain ⟨i0, hi, hz0, hz1, hz2⟩ := info_parts infoNum
  obtain ⟨p9, n9, c9, rfl⟩ := hv
  obtain ⟨pa, ca, bb, pm, nm, cm, rfl, hA, hN⟩ := h0
  obtain ⟨pa', ca', e, j1, j2, -, j4⟩ := hA
  injection e with e1 e2 e3
  subst e1 e3
  clear e2
  have J4 := hid j4
  have H1 := hid h1
  have Ha := hid ha
  have HS := hid hs; have HM := hid hm; have HN := hid hN
  obtain ⟨pk, ck, rfl, k1, k2, -, k4⟩ := h1
  obtain ⟨ps, cps, rfl, s1, s2, -, -⟩ := hs
  obtain ⟨pq, cpq, rfl, q1, q2, -, -⟩ := hm
  have K4 := hid k4
  unfold maxLen at j2 k2 s2 q2
  obtain ⟨W, hW⟩ : ∃ W, W = ((((w.alloc (.cells #[.slice ps syms.length cps, .slice p9 n9 c9] 25)).alloc (.cells #[.slice pq ts.length cpq] 28)).alloc (.cells #[.int .i64 t.op, .slice pa t.args.length ca, .bool bb, .slice pm nm cm, .int .i64 t.sym] 71)).alloc (.cells #[.bool false, .slice none 0 0] 44)) := ⟨_, rfl⟩
  have b0 : Below w.heap.size w W := by rw [hW]; exact (((below1 w _).alloc (by simp) _).alloc (by simp; omega) _).alloc (by simp; omega) _
  have e0 : W.heap[w.heap.size]? = some (.cells #[.slice ps syms.length cps, .slice p9 n9 c9] 25 (0, 0)) := by rw [hW]; exact alloc_keep (alloc_keep (alloc_keep (alloc_at _ _ _ rfl)))
  have e1 : W.heap[w.heap.size + 1]? = some (.cells #[.slice pq ts.length cpq] 28 (0, 0)) := by rw [hW]; exact alloc_keep (alloc_keep (alloc_at _ _ _ (by rw [size_alloc])))
  have e2 : W.heap[w.heap.size + 1 + 1]? = some (.cells #[.int .i64 t.op, .slice pa t.args.length ca, .bool bb, .slice pm nm cm, .int .i64 t.sym] 71 (0, 0)) := by rw [hW]; exact alloc_keep (alloc_at _ _ _ (by rw [size_alloc, size_alloc]))
  have e3 : W.heap[w.heap.size + 1 + 1 + 1]? = some (.cells #[.bool false, .slice none 0 0] 44 (0, 0)) := by rw [hW]; exact alloc_at _ _ _ (by rw [size_alloc, size_alloc, size_alloc])
  have z3 : W.heap.size = w.heap.size + 1 + 1 + 1 + 1 := by rw [hW, size_alloc, size_alloc, size_alloc, size_alloc]
  have x1 : W.cell? ⟨w.heap.size + 1 + 1, 1, none⟩ = some (.slice pa t.args.length ca) := rec5_cell e2
  have B0 := hid b0; have E0 := hid e0; have E1 := hid e1; have E2 := hid e2; have E3 := hid e3; have Z3 := hid z3
  have Hlp : Hid ((vlParts t known).length = t.args.length) := hid (by simp [vlParts])
  unfold vlParts at *
  clear j4 k4 ha b0 e0 e1 e2 e3 z3 hN s1 s2 q1 q2
  obtain ⟨op, al, num, sym⟩ := t
  dsimp only at *
  subst hop
  have Hsum := hid hsum
  clear hsum
  go_enter Tryz.func53, Tryz.ntmps53
  go_upto_region 2 with fail
  rw [← hW]
  clear hW
  go_wp2_with fail
  have hzw : w.heap.size < W.heap.size := by have := Z3.out; omega
  go_loopw [9, 20] (fun o i wr => ∃ (k : Nat) (cs : List Value), k ≤ al.length ∧ i = .int .i64 (k : Nat) ∧ wr.ownsRow W.heap.size 44 2 o k cs ∧ Hid (VlCells w ((al.take k).map (vlAt known)) cs) ∧ Hid (Below W.heap.size W wr)) (fun _ i _ => al.length - (intOf i).toNat)
  case atStart => exact ⟨0, [], Nat.zero_le _, rfl, World.ownsRow_nil .., hid rfl, hid (Below.refl _ _)⟩
  case round =>
    obtain ⟨k, cs, hk, rfl, ho, hC, hB⟩ := hrel
    by_cases hlt : k < al.length
    · have hbw := hid (bel_go hB.out B0.out)
      obtain ⟨ba, oa, rfl, hba, hca⟩ := J4.out (by omega)
      have ka := (hbw.out.cell (p := ⟨ba, oa + k, none⟩) hba).trans (hca k hlt)
      obtain ⟨hj0, hj1⟩ := Ha.out al[k] (List.getElem_mem hlt)
      obtain ⟨j, hj⟩ : ∃ j : Nat, al[k] = (j : Nat) := ⟨al[k].toNat, by omega⟩
      have hjk : j < known.length := by omega
      have hjk' : (j : Int) < (known.length : Int) := by omega
      obtain ⟨bk, ok, rfl, hbk, hck⟩ := K4.out (by omega)
      obtain ⟨n, s, c0, c1, hr⟩ := hck j hjk
      obtain ⟨q, d, g, rfl⟩ := hr.shape
      have m0 := (hbw.out.cell (p := ⟨bk, ok + j * 2, none⟩) hbk).trans c0
      have m1 := (hbw.out.cell (p := ⟨bk, ok + j * 2 + 1, none⟩) hbk).trans c1
      rw [hj] at ka
      have Htk := hid (show (al.take (k+1)).map (vlAt known) = (al.take k).map (vlAt known) ++ [known[j]] from by rw [List.take_succ_eq_append_getElem hlt, List.map_append, List.map_singleton, hj, vlAt_nat known j hjk])
      have Hr := hid hr
      have bn := below1 wr (.cells #[.bool n, .slice q d g] 44)
      have ho4 := ownsRow_later ho bn
      have hz4 := size_alloc wr (.cells #[.bool n, .slice q d g] 44)
      have hnew := heap_alloc_new wr (.cells #[.bool n, .slice q d g] 44)
      have hnews : ∀ j u, ([.bool n, .slice q d g] : List Value)[j]? = some u → (wr.alloc (.cells #[.bool n, .slice q d g] 44)).cell? ((⟨wr.heap.size, 0, none⟩ : Addr).add j) = some u := by
        intro j u hj
        rw [Go.WideShapes.add_plain, Nat.zero_add, cell_of_row _ _ _ _ _ _ hnew]
        simpa using hj
      have hlw := hB.out.size
      have Bn := hid bn
      clear hck hca c0 c1 hr hj0 hj1 hj hba hbk bn ho hnew
      go_wp2_with (at_builtin; refine wpList_append_own _ rfl _ _ 32 rfl W.heap.size 44 i0 _ 2 32 Tryz.underlying32 hi hz0 hz1 hz2 rfl (by decide) _ k _ rfl ho4 ⟨wr.heap.size, 0, none⟩ 1 1 [.bool n, .slice q d g] rfl rfl hnews (by intro u hu; simp at hu; rcases hu with rfl | rfl <;> rfl) (by simp [maxLen]; omega) (by omega) (by omega) ?_; intro v5 w5 ho5 hg5 _)
      go_roundw
      case rel => exact ⟨k + 1, _, by omega, by go_num, ho5, hid (by rw [Htk.out]; exact hC.out.snoc Hr.out), hid ((hB.out.trans (Bn.out.mono hlw)).grown hg5 (by omega) (fun g hg => (World.ownsRow.lt ho4 g hg).1))⟩
      case measure => simp [intOf] <;> omega
    · obtain rfl : k = al.length := by omega
      have hbw := hid (bel_go hB.out B0.out)
      have hown : NumsOwn W.heap.size wr _ (al.map (vlAt known)) := ⟨cs, by rw [List.length_map]; exact ho, by have := hC.out; rw [List.take_length] at this; exact this.below hbw.out⟩
      obtain ⟨po, co, rfl⟩ := ownsRow_shape ho
      have HL := hid hown.in
      have HO := hid (fun k (h : (Value.slice po al.length co).ownBlock = some k) => (World.ownsRow.lt ho k h).1)
      have F0 := hid ((hB.out.block w.heap.size (by have := Z3.out; omega)).trans E0.out)
      have F1 := hid ((hB.out.block (w.heap.size + 1) (by have := Z3.out; omega)).trans E1.out)
      have F2 := hid ((hB.out.block (w.heap.size + 1 + 1) (by have := Z3.out; omega)).trans E2.out)
      have HP : Hid (Pair wr (w.heap.size + 1 + 1 + 1) 44) := hid ⟨_, _, _, _, (hB.out.block (w.heap.size + 1 + 1 + 1) (by have := Z3.out; omega)).trans E3.out⟩
      have hsz : w.heap.size + 1 + 1 + 1 < wr.heap.size := by have := Z3.out; have := hB.out.size; omega
      have hop : wr.cell? ⟨w.heap.size + 1 + 1, 0, none⟩ = some (.int .i64 12) := by have := F2.out; simp [World.cell?, this]
      generalize al.map (vlAt known) = l at *
      clear x1 hown ho hC B0 E0 E1 E2 E3 H1 K4 J4 Ha
      have Hlp2 : Hid (l.length = al.length) := Hlp
      rw [← Hlp2.out] at HL ⊢
      clear Hlp
      have hll : l.length ≤ 1048576 := by have := Hlp2.out; omega
      obtain ⟨L, hL⟩ : ∃ L, L = l.length := ⟨_, rfl⟩
      have HLL := hid hL
      rw [← hL] at HL hll
      clear hL Hlp2
      go_upto_region 39 with fail
      rw [← HLL.out]
      obtain ⟨wo, rfl⟩ : ∃ wo, wo = wr := ⟨_, rfl⟩
      go_upto_region 40 with fail
      generalize hW4 : World.alloc wo _ = W4
      have X4 : Below wo.heap.size wo W4 ∧ VlCell W4 wo.heap.size 0 := by
        rw [← hW4]; exact ⟨below1 _ _, _, _, _, _, heap_alloc_new wo _, IntAt.zero _⟩
      have HB4 := hid X4.1; have HC4 := hid X4.2
      clear hW4 X4
      go_wp2_with fail
      go_loopw [154] (fun i wr => ∃ k : Nat, k ≤ L ∧ i = .int .i64 (k : Nat) ∧ Hid (VlCell wr wo.heap.size (vlSum (l.take k))) ∧ Hid (Below wo.heap.size wo wr)) (fun i _ => L - (intOf i).toNat)
      case atStart => exact ⟨0, Nat.zero_le _, rfl, HC4, HB4⟩
      case round =>
        obtain ⟨k, hk, rfl, hT, hB⟩ := hrel
        obtain ⟨td, tp, tn, tc, hh, hi⟩ := id hT.out
        obtain ⟨u0, u1⟩ := pair_cells hh
        have htl : wo.heap.size < wr.heap.size := (Array.getElem?_eq_some_iff.1 hh).1
        by_cases hlt : k < L
        · have hkr : k < l.length := by rw [← HLL.out]; exact hlt
          have hat := HL.out.at k hkr
          obtain ⟨b5, o5, c5, x5, q5, d5, g5, e5, hb5, n0, n1, n2⟩ := hat
          rw [← HLL.out] at e5
          injection e5 with f1 _ f3
          subst f1 f3
          have m0 := (hB.out.cell (p := ⟨b5, o5 + k * 2, none⟩) hb5).trans n0
          have m1 := (hB.out.cell (p := ⟨b5, o5 + k * 2 + 1, none⟩) hb5).trans n1
          have bz5 := below1 wr (.cells #[.bool x5, .slice q5 d5 g5] 44)
          have u0 := (bz5.cell (p := ⟨wo.heap.size, 0, none⟩) htl).trans u0
          have u1 := (bz5.cell (p := ⟨wo.heap.size, 1, none⟩) htl).trans u1
          have HA := hid (RAdd_any _ _ _ _ _ ((hi.raw (by have := Hsum.out k (by rw [← HLL.out]; omega); omega)).below bz5) ((n2.below hB.out).below bz5))
          have B5 := hid bz5
          have Hnext := hid (vlSum_take l k hkr)
          have Htl := hid htl
          have hlt' : (k : Int) < (L : Int) := by omega
          generalize l[k] = xk at *
          clear n0 n1 n2 hb5 hh hi bz5 htl
          go_wp2_with fail
          refine HA.out.mono ?_
          rintro e w3 ⟨v3, rfl, hi3, b3⟩
          obtain ⟨p3, n3, c3, rfl, hi3⟩ := hi3.shape
          have b6 := bel_go b3 B5.out
          have hpt := hid (hT.out.pair.below b6)
          have hq := hpt.out.cells
          obtain ⟨_, _, v0, v1, v2, v3⟩ := hq
          have Hi3 := hid hi3
          have HB6 := hid (bel_go b6 hB.out)
          clear HA b3 b6 hi3
          go_wp2_with fail
          go_roundw
          case rel => exact ⟨k + 1, by omega, by go_num, hid (by rw [Hnext.out]; exact VlCell.put hpt.out Hi3.out), hid (Below.stored HB6.out (Nat.le_refl _) _ _)⟩
          case measure => simp [intOf] <;> omega
        · obtain rfl : k = L := by omega
          have hfin : Hid (vlSum (l.take k) = vlSum l) := hid (by rw [HLL.out, List.take_length])
          have HP2 := hid (HP.out.below hB.out)
          have hbw2 := hid (bel_go hB.out hbw.out)
          have hq := HP2.out.cells
          obtain ⟨_, _, q0, q1, q2, q3⟩ := hq
          have Hi := hid hi
          have Hs := hid (show sz Big.W (vlSum (l.take k)).natAbs ≤ 1099511627776 by have := Hsum.out k (by rw [← HLL.out]; omega); omega)
          clear hh hi
          go_wp2
          exact bodyPost_ret (v := .agg #[.bool td, .slice tp tn tc]) (by simp [results, Tryz.results53, go_sem, q0, q1]) rfl ⟨_, rfl, by rw [Hrr.out]; exact (by rw [← hfin.out]; exact IntAt.raw (Hi.out.stored HP2.out _ _ _ _) Hs.out), Below.stored hbw2.out (by omega) _ _⟩
end Go.Proofs.YtckkpolikdnilaaGreatDoor
/- elenchusref05.One, whatever the Op. -/
namespace Go.Proofs.YtckkpolikdnilaaGreatDoor
open Go.RowKit Big Go.WideMaps

/-- the numbers that a table's rows ask for aren't too great -/
def Rows9 (ts : List Tb5) : Prop := ∀ t ∈ ts, ∀ r ∈ t.rows, ∀ z ∈ r.1, sz Big.W z.natAbs ≤ 549755813888
theorem One_any (vs v0 vm vt vk : Value) (syms : List Sy) (ts : List Tb5) (t : Tm) (known : List Int) (w : World) (hs : SyIn w vs syms) (hv : ∃ p n c, v0 = .slice p n c) (hm : TabsIn w vm ts) (h0 : TmRaw w vt t) (h1 : NumsIn w vk known) (ha : ∀ a ∈ t.args, 0 ≤ a ∧ a < known.length) (hn : t.args.length ≤ 1048576)
    (hf : VlFit syms ts t (vlParts t known)) (hr : Rows9 ts) (hz : sz Big.W (vlRefOp syms ts t (vlParts t known)).natAbs ≤ 1099511627776) :
    Calls Tryz.prog 53 #[.agg #[vs, v0], .agg #[vm], vt, vk] w (RRaw (vlRefOp syms ts t (vlParts t known)) w) := by
  have ho := hf.op
  have hl : (vlParts t known).length = t.args.length := by simp [vlParts]
  have e0 : vlParts t known = t.args.map (vlAt known) := rfl
  have hc : t.op = 1 ∨ t.op = 2 ∨ t.op = 3 ∨ t.op = 4 ∨ t.op = 5 ∨ t.op = 6 ∨ t.op = 7 ∨ t.op = 8 ∨ t.op = 9 ∨ t.op = 10 ∨ t.op = 11 ∨ t.op = 12 ∨ t.op = 13 := by omega
  rcases hc with e | e | e | e | e | e | e | e | e | e | e | e | e
  · exact One_true vs v0 vm vt vk syms ts t known w hs hv hm h0 h1 ha hn e _ (by unfold vlRefOp; simp [e, vlTruth])
  · exact One_false vs v0 vm vt vk syms ts t known w hs hv hm h0 h1 ha hn e _ (by unfold vlRefOp; simp [e])
  · exact One_num vs v0 vm vt vk syms ts t known w hs hv hm h0 h1 ha hn e _ (by unfold vlRefOp; simp [e])
  · obtain ⟨k1, k2, k3⟩ := hf.sym e
    have e1 : t.sym = ((t.sym.toNat : Nat) : Int) := by omega
    have hks : t.sym.toNat < syms.length := by omega
    have hkt : t.sym.toNat < ts.length := by omega
    have e2 : vlRefOp syms ts t (vlParts t known) = vlTell (syms[t.sym.toNat]).sort ts[t.sym.toNat] (t.args.map (vlAt known)) := by
      unfold vlRefOp vlTabAt
      rw [← e0]
      simp [e, hks, hkt]
    rw [e2] at hz
    exact One_app vs v0 vm vt vk syms ts t known w hs hv hm h0 h1 ha hn e t.sym.toNat e1 hks hkt hf.parts (hr _ (List.getElem_mem hkt)) hz _ e2
  · exact One_not vs v0 vm vt vk syms ts t known w hs hv hm h0 h1 ha hn e (by have := hf.one (.inl e); omega) _ (by unfold vlRefOp; rw [← e0]; simp [e])
  · exact One_and vs v0 vm vt vk syms ts t known w hs hv hm h0 h1 ha hn e _ (by unfold vlRefOp; rw [← e0]; simp [e])
  · exact One_or vs v0 vm vt vk syms ts t known w hs hv hm h0 h1 ha hn e _ (by unfold vlRefOp; rw [← e0]; simp [e])
  · exact One_iff vs v0 vm vt vk syms ts t known w hs hv hm h0 h1 ha hn e (by have := hf.two (.inl e); omega) _ (by unfold vlRefOp; rw [← e0]; simp [e])
  · exact One_ite vs v0 vm vt vk syms ts t known w hs hv hm h0 h1 ha hn e (by have := hf.three e; omega) _ (by unfold vlRefOp; rw [← e0]; simp [e])
  · exact One_eq vs v0 vm vt vk syms ts t known w hs hv hm h0 h1 ha hn e (by have := hf.two (.inr (.inl e)); omega) hf.parts _ (by unfold vlRefOp; rw [← e0]; simp [e])
  · exact One_le vs v0 vm vt vk syms ts t known w hs hv hm h0 h1 ha hn e (by have := hf.two (.inr (.inr e)); omega) hf.parts _ (by unfold vlRefOp; rw [← e0]; simp [e])
  · exact One_add vs v0 vm vt vk syms ts t known w hs hv hm h0 h1 ha hn e (hf.sums e) _ (by unfold vlRefOp; rw [← e0]; simp [e])
  · exact One_mul vs v0 vm vt vk syms ts t known w hs hv hm h0 h1 ha hn e (by have := hf.one (.inr e); omega) hf.parts hf.num _ (by unfold vlRefOp; rw [← e0]; simp [e])
end Go.Proofs.YtckkpolikdnilaaGreatDoor
/- What stays when only blocks of some types turn; rows of one's own whose parts are told. -/
namespace Go.Proofs.YtckkpolikdnilaaGreatDoor
open Go.RowKit Big Go.WideMaps

/-- of what was there only blocks of these types may have turned -/
structure OffT (Ts : List TypeId) (w w' : World) : Prop where
  os : w'.os = w.os
  tape : w'.tape = w.tape
  output : w'.output = w.output
  size : w.heap.size ≤ w'.heap.size
  block : ∀ (k : Nat) (c : Array Value) (T : TypeId), w.heap[k]? = some (.cells c T (0, 0)) → T ∉ Ts → w'.heap[k]? = some (.cells c T (0, 0))
theorem OffT.refl (Ts : List TypeId) (w : World) : OffT Ts w w := ⟨rfl, rfl, rfl, Nat.le_refl _, fun _ _ _ h _ => h⟩
theorem OffT.trans {Ts : List TypeId} {a b c : World} (h : OffT Ts a b) (k : OffT Ts b c) : OffT Ts a c :=
  ⟨k.os.trans h.os, k.tape.trans h.tape, k.output.trans h.output, Nat.le_trans h.size k.size, fun i o T hi hn => k.block i o T (h.block i o T hi hn) hn⟩
theorem OffT.mono {Ts Ts' : List TypeId} {a b : World} (h : OffT Ts a b) (hs : ∀ T ∈ Ts, T ∈ Ts') : OffT Ts' a b :=
  ⟨h.os, h.tape, h.output, h.size, fun i o T hi hn => h.block i o T hi (fun hT => hn (hs T hT))⟩
theorem OffT.of_below {Ts : List TypeId} {w w' : World} (h : Below w.heap.size w w') : OffT Ts w w' :=
  ⟨h.os, h.tape, h.output, h.size, fun i _ _ hi _ => (h.block i (Array.getElem?_eq_some_iff.1 hi).1).trans hi⟩
theorem OffT.of_apart {Ts : List TypeId} {S : Nat → Prop} {w w' : World} (h : Apart S w w') (hS : ∀ k, S k → k < w.heap.size → ∃ c, ∃ T ∈ Ts, w.heap[k]? = some (.cells c T (0, 0))) : OffT Ts w w' :=
  ⟨h.os, h.tape, h.output, h.size, fun i o T hi hn => (h.block i (Array.getElem?_eq_some_iff.1 hi).1 (fun hs => by
    obtain ⟨c, T', hT', hc⟩ := hS i hs (Array.getElem?_eq_some_iff.1 hi).1
    rw [hi] at hc
    injection hc with hc
    injection hc with _ hc
    exact hn (hc ▸ hT'))).trans hi⟩
theorem OffT.row {Ts : List TypeId} {w w' : World} (h : OffT Ts w w') {b : Nat} {e : TypeId} {s : Nat} {v : Value} {n : Nat} {xs : List Value} (hr : w.ownsRow b e s v n xs) (he : e ∉ Ts) : w'.ownsRow b e s v n xs :=
  row_stays hr fun k hk => by
    obtain ⟨c, hc⟩ := row_tag hr k hk
    rw [hc]
    exact h.block k c e hc he
theorem OffT.own {Ts : List TypeId} {w w' : World} (h : OffT Ts w w') {B : Nat} {v : Value} {z : Int} (hi : IntOwn w B v z) (he : 94 ∉ Ts) : IntOwn w' B v z := by
  obtain ⟨s, hs, ho⟩ := hi
  exact ⟨s, hs, h.row ho he⟩
/-- a row of one's own whose parts of k cells are told by Q -/
def OwnLs {α : Type} (e : TypeId) (k : Nat) (Q : World → List Value → α → Prop) (B : Nat) (w : World) (v : Value) (l : List α) : Prop :=
  ∃ css : List (List Value), css.length = l.length ∧ w.ownsRow B e k v l.length css.flatten ∧ (∀ c ∈ css, c.length = k) ∧ ∀ i (h : i < l.length) (h' : i < css.length), Q w css[i] l[i]
theorem OwnLs.nil {α : Type} (e : TypeId) (k : Nat) (Q : World → List Value → α → Prop) (B : Nat) (w : World) : OwnLs e k Q B w (.slice none 0 0) ([] : List α) :=
  ⟨[], rfl, World.ownsRow_nil w B e k, nofun, fun i h => absurd h (by simp)⟩
theorem OwnLs.off {α : Type} {e : TypeId} {k : Nat} {Q : World → List Value → α → Prop} {B : Nat} {w w' : World} {v : Value} {l : List α} (h : OwnLs e k Q B w v l) {Ts : List TypeId} (hf : OffT Ts w w') (he : e ∉ Ts) (hQ : ∀ c x, Q w c x → Q w' c x) : OwnLs e k Q B w' v l := by
  obtain ⟨css, h1, h2, h3, h4⟩ := h
  exact ⟨css, h1, hf.row h2 he, h3, fun i hi hi' => hQ _ _ (h4 i hi hi')⟩
/-- what is told of the parts is kept, and the row's block stays -/
theorem OwnLs.kept {α : Type} {e : TypeId} {k : Nat} {Q : World → List Value → α → Prop} {B : Nat} {w w' : World} {v : Value} {l : List α} (h : OwnLs e k Q B w v l) (hb : ∀ g, v.ownBlock = some g → w'.heap[g]? = w.heap[g]?) (hQ : ∀ c x, Q w c x → Q w' c x) : OwnLs e k Q B w' v l := by
  obtain ⟨css, h1, h2, h3, h4⟩ := h
  exact ⟨css, h1, row_stays h2 hb, h3, fun i hi hi' => hQ _ _ (h4 i hi hi')⟩
theorem OwnLs.mono {α : Type} {e : TypeId} {k : Nat} {Q : World → List Value → α → Prop} {B B' : Nat} {w : World} {v : Value} {l : List α} (h : OwnLs e k Q B w v l) (hB : B' ≤ B) : OwnLs e k Q B' w v l := by
  obtain ⟨css, h1, h2, h3, h4⟩ := h
  exact ⟨css, h1, ownsRow_mono h2 hB, h3, h4⟩
theorem OwnLs.row {α : Type} {e : TypeId} {k : Nat} {Q : World → List Value → α → Prop} {B : Nat} {w : World} {v : Value} {l : List α} (h : OwnLs e k Q B w v l) : ∃ xs, w.ownsRow B e k v l.length xs ∧
    ∀ w' v' c x, w'.ownsRow B e k v' (l.length + 1) (xs ++ c) → c.length = k → (∀ c x, Q w c x → Q w' c x) → Q w' c x → OwnLs e k Q B w' v' (l ++ [x]) := by
  obtain ⟨css, h1, h2, h3, h4⟩ := h
  refine ⟨css.flatten, h2, fun w' v' c x hr hc hQ hx => ⟨css ++ [c], by simp [h1], by simpa using hr, fun d hd => ?_, fun i hi hi' => ?_⟩⟩
  · rcases List.mem_append.1 hd with hd | hd
    · exact h3 d hd
    · rw [List.mem_singleton.1 hd]; exact hc
  · by_cases hlt : i < l.length
    · rw [List.getElem_append_left hlt, List.getElem_append_left (by omega)]
      exact hQ _ _ (h4 i hlt (by omega))
    · have e1 : i = l.length := by simp at hi; omega
      subst e1
      rw [List.getElem_append_right (Nat.le_refl _), List.getElem_append_right (by omega)]
      simpa [h1] using hx
theorem OwnLs.shape {α : Type} {e : TypeId} {k : Nat} {Q : World → List Value → α → Prop} {B : Nat} {w : World} {v : Value} {l : List α} (h : OwnLs e k Q B w v l) : ∃ p c, v = .slice p l.length c := by
  obtain ⟨css, h1, h2, h3, h4⟩ := h
  exact ownsRow_shape h2
theorem flatten_at {k : Nat} : ∀ {css : List (List Value)}, (∀ c ∈ css, c.length = k) → ∀ i (h : i < css.length) j u, css[i][j]? = some u → css.flatten[i * k + j]? = some u
  | c :: css, hc, 0, _, j, u, hj => by
    have hj : c[j]? = some u := hj
    have hl := (List.getElem?_eq_some_iff.1 hj).1
    rw [Nat.zero_mul, Nat.zero_add, List.flatten_cons, List.getElem?_append_left hl]
    exact hj
  | c :: css, hc, i + 1, h, j, u, hj => by
    have h1 := flatten_at (css := css) (fun d hd => hc d (by simp [hd])) i (by simpa using h) j u hj
    have h2 := hc c (by simp)
    rw [List.flatten_cons, List.getElem?_append_right (by rw [h2, Nat.succ_mul]; omega), h2]
    rw [show (i + 1) * k + j - k = i * k + j from by rw [Nat.succ_mul]; omega]
    exact h1
/-- it reads so -/
theorem OwnLs.in {α : Type} {e : TypeId} {k : Nat} {Q : World → List Value → α → Prop} {B : Nat} {w : World} {v : Value} {l : List α} (h : OwnLs e k Q B w v l) : LsIn k Q w v l := by
  obtain ⟨css, h1, h2, h3, h4⟩ := h
  rcases id h2.2 with ⟨rfl, h0⟩ | ⟨g, cap, cur, rfl, hb, hh, k1, k2, k3, k4⟩
  · have : l = [] := List.eq_nil_of_length_eq_zero h0
    subst this
    exact ⟨none, 0, rfl, by simp, by simp [maxLen], fun _ => rfl, fun h => absurd h (by simp)⟩
  · refine ⟨_, cap, rfl, k1, k2, by simp, fun _ => ⟨g, 0, rfl, (Array.getElem?_eq_some_iff.1 hh).1, fun i hi => ⟨css[i]'(by omega), fun j u hj => ?_, h4 i hi (by omega)⟩⟩⟩
    have h5 := flatten_at h3 i (by omega) j u hj
    have := h2.cells (g := g) rfl _ _ h5
    rw [Go.WideShapes.add_plain] at this
    rw [← this]
    congr 2
    omega
/-- a number's two cells, its words of one's own -/
def IoQ (B : Nat) (w : World) (c : List Value) (z : Int) : Prop := ∃ s, c = [.bool (decide (z < 0)), s] ∧ IntOwn w B (.agg #[.bool (decide (z < 0)), s]) z
theorem IoQ.off {B : Nat} {w w' : World} {c : List Value} {z : Int} (h : IoQ B w c z) {Ts : List TypeId} (hf : OffT Ts w w') (he : 94 ∉ Ts) : IoQ B w' c z := by
  obtain ⟨s, e, h⟩ := h
  exact ⟨s, e, hf.own h he⟩
theorem IoQ.mono {B B' : Nat} {w : World} {c : List Value} {z : Int} (h : IoQ B w c z) (hB : B' ≤ B) : IoQ B' w c z := by
  obtain ⟨s, e, h⟩ := h
  exact ⟨s, e, h.mono hB⟩
abbrev OwnNums (B : Nat) := OwnLs 44 2 (IoQ B) B
theorem OwnNums.told {B : Nat} {w : World} {v : Value} {l : List Int} (h : OwnNums B w v l) : NumsTold w v l := by
  obtain ⟨p, cap, rfl, h1, h2, h3, h4⟩ := h.in
  refine ⟨p, cap, rfl, h1, h2, h3, fun hp => ?_⟩
  obtain ⟨b, off, h5, h6, h7⟩ := h4 hp
  refine ⟨b, off, h5, h6, fun i hi => ?_⟩
  obtain ⟨c, k1, s, rfl, k2⟩ := h7 i hi
  exact ⟨s, k1 0 _ rfl, k1 1 _ rfl, k2.told⟩
theorem NumsTold.in {w : World} {v : Value} {l : List Int} (h : NumsTold w v l) (hs : ∀ z ∈ l, sz W z.natAbs ≤ 1099511627776) : NumsIn w v l := by
  obtain ⟨p, cap, rfl, h1, h2, h3, h4⟩ := h
  refine ⟨p, cap, rfl, h1, h2, h3, fun hp => ?_⟩
  obtain ⟨b, off, h5, h6, h7⟩ := h4 hp
  refine ⟨b, off, h5, h6, fun i hi => ?_⟩
  obtain ⟨s, k1, k2, k3⟩ := h7 i hi
  exact ⟨_, s, k1, k2, k3.raw (hs _ (List.getElem_mem hi))⟩
theorem OwnNums.off {B : Nat} {w w' : World} {v : Value} {l : List Int} (h : OwnNums B w v l) {Ts : List TypeId} (hf : OffT Ts w w') (he : 44 ∉ Ts) (hu : 94 ∉ Ts) : OwnNums B w' v l :=
  OwnLs.off h hf he (fun _ _ hx => hx.off hf hu)
theorem OwnNums.later {B : Nat} {w w' : World} {v : Value} {l : List Int} (h : OwnNums B w v l) (hb : Below w.heap.size w w') : OwnNums B w' v l :=
  OwnNums.off h (OffT.of_below (Ts := []) hb) (by simp) (by simp)
end Go.Proofs.YtckkpolikdnilaaGreatDoor
/- elenchusref05.Values. -/
namespace Go.Proofs.YtckkpolikdnilaaGreatDoor
open Go.RowKit Big Go.WideMaps

theorem OffT.of_grown {w w' : World} {b : Nat} {e : TypeId} {s : Nat} {v : Value} {n : Nat} {xs : List Value} (hr : w.ownsRow b e s v n xs) (hg : w.grownBy w' v.ownBlock) : OffT [e] w w' :=
  OffT.of_apart (S := fun k => v.ownBlock = some k) ((Apart.refl _ w).grown hg (fun k hk => hk)) (fun k hk _ => by
    obtain ⟨c, hc⟩ := row_tag hr k hk
    exact ⟨c, e, by simp, hc⟩)
def RTold (l : List Int) (w : World) (e : Ending) (w' : World) : Prop := ∃ v, e = .returned v ∧ NumsTold w' v l ∧ Below w.heap.size w w'
set_option maxRecDepth 100000 in
set_option maxHeartbeats 6400000 in
theorem Values_any {N : Nat} (hN : 1 ≤ N) (vs vt vm : Value) (syms : List Sy) (terms : List Tm) (ts : List Tb5) (w : World) (hs : SyIn w vs syms) (ht : TmsIn w vt terms) (hm : TabsIn w vm ts) (hst : Steps ⟨syms, [], []⟩ terms) (ha : ∀ t ∈ terms, t.args.length ≤ 1048576)
    (hts : Sized N ts) (hn : ∀ t ∈ terms, sz Big.W t.num.natAbs ≤ N) (hl : syms.length ≤ ts.length) (hL : terms.length * N ≤ 268435456) (hr : Rows9 ts) :
    Calls Tryz.prog 31 #[.agg #[vs, vt], .agg #[vm]] w (RTold (vlEval syms ts terms []) w) := by
  obtain ⟨i0, hi, hz0, hz1, hz2⟩ := info_parts infoNum
  have Hs := hid hs; have Ht := hid ht; have Hm := hid hm
  have Hfit := hid (fit_at hN hts hst hn hl hL)
  have Hsz := hid (eval_size hN hts hst hn)
  have Hop := hid (op_at ts hst)
  have Ha := hid ha; have Hr := hid hr
  have hLb : terms.length ≤ 268435456 := Nat.le_trans (Nat.le_mul_of_pos_right _ hN) hL
  have HLN := hid hL
  have hvs : ∃ p n c, vt = .slice p n c := by obtain ⟨p, c, rfl, -⟩ := ht; exact ⟨_, _, _, rfl⟩
  obtain ⟨ps, cps, rfl, -, -, -, -⟩ := hs
  obtain ⟨pt, cpt, rfl, j1, j2, -, j4⟩ := ht
  obtain ⟨pm, cpm, rfl, -, -, -, -⟩ := hm
  have J4 := hid j4
  unfold maxLen at j2
  obtain ⟨W, hW⟩ : ∃ W, W = (w.alloc (.cells #[.slice ps syms.length cps, .slice pt terms.length cpt] 25)).alloc (.cells #[.slice pm ts.length cpm] 28) := ⟨_, rfl⟩
  have b0 : Below w.heap.size w W := by rw [hW]; exact (below1 w _).alloc (by simp) _
  have e0 : W.heap[w.heap.size]? = some (.cells #[.slice ps syms.length cps, .slice pt terms.length cpt] 25 (0, 0)) := by rw [hW]; exact alloc_keep (alloc_at _ _ _ rfl)
  have e1 : W.heap[w.heap.size + 1]? = some (.cells #[.slice pm ts.length cpm] 28 (0, 0)) := by rw [hW]; exact alloc_at _ _ _ (by rw [size_alloc])
  have z0 : W.heap.size = w.heap.size + 1 + 1 := by rw [hW, size_alloc, size_alloc]
  have B0 := hid b0; have E0 := hid e0; have E1 := hid e1; have Z0 := hid z0
  obtain ⟨L, hLL⟩ : ∃ L, L = terms.length := ⟨_, rfl⟩
  have HLL := hid hLL
  rw [← hLL] at E0 hW hLb j1 hvs ⊢
  have hvs := hid hvs
  clear hst ha hts hn hl hL hr b0 e0 e1 z0 hLL j4
  generalize hS : syms.length = L0 at *
  generalize hT : ts.length = L2 at *
  clear hS hT
  go_enter Tryz.func31, Tryz.ntmps31
  go_upto_region 2 with fail
  rw [← hW]
  clear hW
  have y1 := (two_cells E0.out).2.1
  go_wp2_with fail
  clear y1
  go_loopw [5, 12] (fun o i wr => ∃ (k : Nat), k ≤ L ∧ i = .int .i64 (k : Nat) ∧ Hid (OwnNums W.heap.size wr o (vlEval syms ts (terms.take k) [])) ∧ Hid (Below W.heap.size W wr)) (fun _ i _ => L - (intOf i).toNat)
  case atStart => exact ⟨0, Nat.zero_le _, rfl, hid (OwnLs.nil ..), hid (Below.refl _ _)⟩
  case round =>
    obtain ⟨k, hk, rfl, hO, hB⟩ := hrel
    have hBw := hid (bel_go hB.out B0.out)
    have hlen : (vlEval syms ts (terms.take k) []).length = k := by rw [eval_len, List.length_take, ← HLL.out]; omega
    obtain ⟨po, co, rfl⟩ := hO.out.shape
    rw [hlen] at hO ⊢
    have Hlen := hid hlen
    clear hlen
    by_cases hlt : k < L
    · have hkt : k < terms.length := by rw [← HLL.out]; exact hlt
      have hlt' : (k : Int) < (L : Int) := by omega
      obtain ⟨b, o, rfl, hb, hc⟩ := J4.out (by omega)
      obtain ⟨c0, c1, c2, c3, c4, k0, k1, k2, k3, k4, hr⟩ := hc k hkt
      obtain ⟨pa, ca, bb, pn, nn, cn, e, hA, hN⟩ := id hr
      injection e with e
      injection e with e
      injection e with f0 e
      injection e with f1 e
      injection e with f2 e
      injection e with f3 e
      injection e with f4 e
      subst f0 f1 f2 f3 f4
      clear e
      have k0 := (hBw.out.cell (p := ⟨b, o + k * 5, none⟩) hb).trans k0
      have k1 := (hBw.out.cell (p := ⟨b, o + k * 5 + 1, none⟩) hb).trans k1
      have k2 := (hBw.out.cell (p := ⟨b, o + k * 5 + 2, none⟩) hb).trans k2
      have k3 := (hBw.out.cell (p := ⟨b, o + k * 5 + 3, none⟩) hb).trans k3
      have k4 := (hBw.out.cell (p := ⟨b, o + k * 5 + 4, none⟩) hb).trans k4
      obtain ⟨hf, harg, hsz⟩ := Hfit.out k hkt
      have hkn := Hsz.out k (by omega)
      have hkN : k * N ≤ 1099511627776 := Nat.le_trans (Nat.mul_le_mul_right _ (Nat.le_of_lt hkt)) (Nat.le_trans HLN.out (by decide))
      have hin : NumsIn wr (.slice po k co) (vlEval syms ts (terms.take k) []) := (hO.out.told).in (fun z hz => Nat.le_trans (hkn z hz) hkN)
      have hal := Ha.out terms[k] (List.getElem_mem hkt)
      have hnext := hid (show vlEval syms ts (terms.take (k + 1)) [] = vlEval syms ts (terms.take k) [] ++ [vlOp syms ts terms[k] (vlParts terms[k] (vlEval syms ts (terms.take k) []))] from by rw [List.take_succ_eq_append_getElem hkt, vlEval_snoc])
      have hop := Hop.out k hkt
      have HOne := hid (fun w' (hb' : Below wr.heap.size wr w') => One_any _ _ _ _ _ syms ts terms[k] (vlEval syms ts (terms.take k) []) w' (Hs.out.below (bel_go hb' hBw.out)) hvs.out (Hm.out.below (bel_go hb' hBw.out)) (hr.below (bel_go hb' hBw.out)) (hin.below hb') (fun a h => by have h2 := harg a h; have := Hlen.out; omega) hal hf Hr.out (by rw [hop]; exact hsz))
      rw [hop] at HOne
      have b5 := below1 wr (.cells #[.int .i64 terms[k].op, .slice pa terms[k].args.length ca, .bool bb, .slice pn nn cn, .int .i64 terms[k].sym] 71)
      have n5 := heap_alloc_new wr (.cells #[.int .i64 terms[k].op, .slice pa terms[k].args.length ca, .bool bb, .slice pn nn cn, .int .i64 terms[k].sym] 71)
      have z5 := size_alloc wr (.cells #[.int .i64 terms[k].op, .slice pa terms[k].args.length ca, .bool bb, .slice pn nn cn, .int .i64 terms[k].sym] 71)
      generalize hW5 : wr.alloc (.cells #[.int .i64 terms[k].op, .slice pa terms[k].args.length ca, .bool bb, .slice pn nn cn, .int .i64 terms[k].sym] 71) = W5 at *
      have HW1 := hid (HOne.out W5 b5)
      have hzz := hB.out.size
      have y0 := two_cells ((b5.block w.heap.size (by have := Z0.out; omega)).trans ((hB.out.block w.heap.size (by have := Z0.out; omega)).trans E0.out))
      have y2 : W5.cell? ⟨w.heap.size + 1, 0, none⟩ = some (.slice pm L2 cpm) := by
        have h := (b5.block (w.heap.size + 1) (by have := Z0.out; omega)).trans ((hB.out.block (w.heap.size + 1) (by have := Z0.out; omega)).trans E1.out)
        simp [World.cell?, h]
      obtain ⟨y0, y1, -, -⟩ := y0
      have tt : W5.cell? ⟨wr.heap.size, 0, none⟩ = some (.int .i64 terms[k].op) ∧ W5.cell? ⟨wr.heap.size, 1, none⟩ = some (.slice pa terms[k].args.length ca) ∧ W5.cell? ⟨wr.heap.size, 2, none⟩ = some (.bool bb) ∧ W5.cell? ⟨wr.heap.size, 3, none⟩ = some (.slice pn nn cn) ∧ W5.cell? ⟨wr.heap.size, 4, none⟩ = some (.int .i64 terms[k].sym) := by simp [World.cell?, n5]
      obtain ⟨t0, t1, t2', t3, t4⟩ := tt
      have B5 := hid b5
      clear hc hb hA hN harg hal hf hkn hin hop hsz HOne hr n5 b5
      generalize vlOp syms ts terms[k] (vlParts terms[k] (vlEval syms ts (terms.take k) [])) = z at *
      go_wp2_with fail
      clear k0 k1 k2 k3 k4
      refine HW1.out.mono ?_
      rintro e w6 ⟨v6, rfl, hr6, b6⟩
      obtain ⟨x6, q6, d6, g6, rfl⟩ := hr6.agg
      obtain ⟨p4, c4, l4, e4, hat, hsm, hln, hz⟩ := hr6.parts
      injection e4 with f1 f2 f3
      subst f1 f2 f3
      have b7 := below1 w6 (.cells #[.bool x6, .slice q6 l4.length g6] 44)
      have n7 := heap_alloc_new w6 (.cells #[.bool x6, .slice q6 l4.length g6] 44)
      have z7 := size_alloc w6 (.cells #[.bool x6, .slice q6 l4.length g6] 44)
      have hz6 := b6.size
      have HWh := hid (Whole_own x6 _ l4 _ (hat.below b7) hsm (by omega))
      rw [← hz] at HWh
      have B7 := hid (bel_go b7 (bel_go b6 B5.out))
      go_upto_region 6 with fail
      generalize hW7 : w6.alloc (.cells #[.bool x6, .slice q6 l4.length g6] 44) = W7 at *
      obtain ⟨u0, u1⟩ := pair_cells n7
      clear hat hsm hln hz hr6 b6 b7 n7 hW7 y0 y1 y2 t0 t1 t2' t3 t4 hW5
      go_wp2_with fail
      refine HWh.out.mono ?_
      rintro e w8 ⟨v8, rfl, i8, b8⟩
      obtain ⟨p8, n8, c8, rfl, i8⟩ := i8.shape
      have b9 := below1 w8 (.cells #[.bool (decide (z < 0)), .slice p8 n8 c8] 44)
      have n9 := heap_alloc_new w8 (.cells #[.bool (decide (z < 0)), .slice p8 n8 c8] 44)
      have hnews : ∀ j u, ([.bool (decide (z < 0)), .slice p8 n8 c8] : List Value)[j]? = some u → (w8.alloc (.cells #[.bool (decide (z < 0)), .slice p8 n8 c8] 44)).cell? ((⟨w8.heap.size, 0, none⟩ : Addr).add j) = some u := by
        intro j u hj
        rw [Go.WideShapes.add_plain, Nat.zero_add, cell_of_row _ _ _ _ _ _ n9]
        simpa using hj
      have b79 := bel_go b9 b8
      have B9 := hid (bel_go b79 B7.out)
      have hO9 := OwnNums.later hO.out B9.out
      have i9 : IntOwn (w8.alloc (.cells #[.bool (decide (z < 0)), .slice p8 n8 c8] 44)) W.heap.size (.agg #[.bool (decide (z < 0)), .slice p8 n8 c8]) z := (i8.mono (by have := B7.out.size; omega)).kept b9
      have hz9 := B9.out.size
      have I9 := hid i9
      clear u0 u1 i8 b8 b9 n9 i9 HWh HW1 b79
      obtain ⟨xs, ho9, hgo⟩ := hO9.row
      rw [Hlen.out] at ho9 hgo
      have Hgo := hid hgo
      have Ho9 := hid ho9
      clear hgo hO9
      go_wp2_with (at_builtin; refine wpList_append_own _ rfl _ _ 32 rfl W.heap.size 44 i0 _ 2 32 Tryz.underlying32 hi hz0 hz1 hz2 rfl (by decide) _ k _ rfl ho9 ⟨w8.heap.size, 0, none⟩ 1 1 [.bool (decide (z < 0)), .slice p8 n8 c8] rfl rfl hnews (by intro u hu; simp at hu; rcases hu with rfl | rfl <;> rfl) (by simp [maxLen]; omega) (by omega) (by omega) ?_; intro v10 w10 ho10 hg10 _)
      have hoff := OffT.of_grown Ho9.out hg10
      have hnew := Hgo.out w10 v10 [.bool (decide (z < 0)), .slice p8 n8 c8] z ho10 rfl (fun c x hx => hx.off hoff (by decide)) ⟨_, rfl, hoff.own I9.out (by decide)⟩
      have Hnew := hid hnew
      have HB10 := hid ((bel_go B9.out hB.out).grown hg10 (by have := hB.out.size; omega) (fun g hg => (World.ownsRow.lt Ho9.out g hg).1))
      clear hnew hoff
      go_roundw
      case rel => exact ⟨k + 1, by omega, by go_num, hid (by rw [hnext.out]; exact Hnew.out), HB10⟩
      case measure => simp [intOf] <;> omega
    · obtain rfl : k = L := by omega
      have hfin : Hid (terms.take k = terms) := hid (by rw [HLL.out, List.take_length])
      go_wp2_with fail
      go_ret
      exact ⟨_, rfl, by have := hO.out.told; rw [hfin.out] at this; exact this, hBw.out⟩
end Go.Proofs.YtckkpolikdnilaaGreatDoor
/- elenchusref05.Eval and True. -/
namespace Go.Proofs.YtckkpolikdnilaaGreatDoor
open Go.RowKit Big Go.WideMaps

set_option maxRecDepth 100000 in
set_option maxHeartbeats 3200000 in
theorem REval_bad (vs vt vm : Value) (syms : List Sy) (terms : List Tm) (ts : List Tb5) (w : World) (hs : SyIn w vs syms) (ht : TmsIn w vt terms) (hm : TabsIn w vm ts) (hn : ∀ t ∈ terms, sz Big.W t.num.natAbs ≤ 549755813888) (he : plCheck syms terms ≠ 0) :
    Calls Tryz.prog 12 #[.agg #[vs, vt], .agg #[vm]] w (RVlErr (plCheck syms terms) w) := by
  have Hs := hid hs; have Ht := hid ht
  obtain ⟨ps, cps, rfl, -, -, -, -⟩ := hs
  obtain ⟨pt, cpt, rfl, -, -, -, -⟩ := ht
  obtain ⟨pm, cpm, rfl, -, -, -, -⟩ := hm
  have b0 : Below w.heap.size w ((w.alloc (.cells #[.slice ps syms.length cps, .slice pt terms.length cpt] 25)).alloc (.cells #[.slice pm ts.length cpm] 28)) := (below1 w _).alloc (by simp) _
  have HC := hid (RCheck_any _ _ syms terms _ (Hs.out.below b0) (Ht.out.below b0) hn)
  have t1 : (plCheck syms terms != 0) = true := by simpa using he
  have B0 := hid b0
  clear hn b0 he Hs Ht
  generalize plCheck syms terms = c at *
  generalize syms.length = L0 at *
  generalize terms.length = L1 at *
  generalize ts.length = L2 at *
  go_enter Tryz.func12, Tryz.ntmps12
  go_wp2_with fail
  refine HC.out.mono ?_
  rintro e w1 ⟨rfl, b1⟩
  have B1 := hid (bel_go b1 B0.out)
  clear HC b1
  go_wp2
  go_ret2
  exact ⟨rfl, B1.out⟩
set_option maxRecDepth 100000 in
set_option maxHeartbeats 3200000 in
theorem REval_miss (vs vt vm : Value) (syms : List Sy) (terms : List Tm) (ts : List Tb5) (w : World) (hs : SyIn w vs syms) (ht : TmsIn w vt terms) (hm : TabsIn w vm ts) (hn : ∀ t ∈ terms, sz Big.W t.num.natAbs ≤ 549755813888) (he : plCheck syms terms = 0) (hl : ts.length < syms.length) :
    Calls Tryz.prog 12 #[.agg #[vs, vt], .agg #[vm]] w (RVlErr 13 w) := by
  have Hs := hid hs; have Ht := hid ht
  obtain ⟨ps, cps, rfl, -, -, -, -⟩ := hs
  obtain ⟨pt, cpt, rfl, -, -, -, -⟩ := ht
  obtain ⟨pm, cpm, rfl, -, -, -, -⟩ := hm
  have b0 : Below w.heap.size w ((w.alloc (.cells #[.slice ps syms.length cps, .slice pt terms.length cpt] 25)).alloc (.cells #[.slice pm ts.length cpm] 28)) := (below1 w _).alloc (by simp) _
  have e0 : ((w.alloc (.cells #[.slice ps syms.length cps, .slice pt terms.length cpt] 25)).alloc (.cells #[.slice pm ts.length cpm] 28)).heap[w.heap.size]? = some (.cells #[.slice ps syms.length cps, .slice pt terms.length cpt] 25 (0, 0)) := alloc_keep (alloc_at _ _ _ rfl)
  have e1 : ((w.alloc (.cells #[.slice ps syms.length cps, .slice pt terms.length cpt] 25)).alloc (.cells #[.slice pm ts.length cpm] 28)).heap[w.heap.size + 1]? = some (.cells #[.slice pm ts.length cpm] 28 (0, 0)) := alloc_at _ _ _ (by rw [size_alloc])
  have HC := hid (RCheck_any _ _ syms terms _ (Hs.out.below b0) (Ht.out.below b0) hn)
  rw [he] at HC
  have z0 : ((w.alloc (.cells #[.slice ps syms.length cps, .slice pt terms.length cpt] 25)).alloc (.cells #[.slice pm ts.length cpm] 28)).heap.size = w.heap.size + 1 + 1 := by rw [size_alloc, size_alloc]
  have B0 := hid b0; have E0 := hid e0; have E1 := hid e1; have Z0 := hid z0
  have t2 : decide (ts.length < syms.length) = true := by simp; omega
  clear hn b0 he Hs Ht e0 e1 z0 hl
  generalize syms.length = L0 at *
  generalize terms.length = L1 at *
  generalize ts.length = L2 at *
  go_enter Tryz.func12, Tryz.ntmps12
  go_wp2_with fail
  refine HC.out.mono ?_
  rintro e w1 ⟨rfl, b1⟩
  have x0 := (two_cells ((b1.block w.heap.size (by have := Z0.out; omega)).trans E0.out)).1
  have x1 : w1.cell? ⟨w.heap.size + 1, 0, none⟩ = some (.slice pm L2 cpm) := by
    have h := (b1.block (w.heap.size + 1) (by have := Z0.out; omega)).trans E1.out
    simp [World.cell?, h]
  have B1 := hid (bel_go b1 B0.out)
  clear HC b1
  go_wp2
  go_ret2
  exact ⟨rfl, B1.out⟩
def RTVals (l : List Int) (w : World) (e : Ending) (w' : World) : Prop := ∃ v, e = .returned (.tuple #[v, .int .i64 0]) ∧ NumsTold w' v l ∧ Below w.heap.size w w'
set_option maxRecDepth 100000 in
set_option maxHeartbeats 3200000 in
theorem REval_ok (vs vt vm : Value) (syms : List Sy) (terms : List Tm) (ts : List Tb5) (w : World) (hs : SyIn w vs syms) (ht : TmsIn w vt terms) (hm : TabsIn w vm ts) (hn : ∀ t ∈ terms, sz Big.W t.num.natAbs ≤ 549755813888) (he : plCheck syms terms = 0) (hl : syms.length ≤ ts.length) (l : List Int)
    (h : ∀ w', Below w.heap.size w w' → Calls Tryz.prog 31 #[.agg #[vs, vt], .agg #[vm]] w' (RTold l w')) :
    Calls Tryz.prog 12 #[.agg #[vs, vt], .agg #[vm]] w (RTVals l w) := by
  have Hs := hid hs; have Ht := hid ht
  obtain ⟨ps, cps, rfl, -, -, -, -⟩ := hs
  obtain ⟨pt, cpt, rfl, -, -, -, -⟩ := ht
  obtain ⟨pm, cpm, rfl, -, -, -, -⟩ := hm
  have b0 : Below w.heap.size w ((w.alloc (.cells #[.slice ps syms.length cps, .slice pt terms.length cpt] 25)).alloc (.cells #[.slice pm ts.length cpm] 28)) := (below1 w _).alloc (by simp) _
  have e0 : ((w.alloc (.cells #[.slice ps syms.length cps, .slice pt terms.length cpt] 25)).alloc (.cells #[.slice pm ts.length cpm] 28)).heap[w.heap.size]? = some (.cells #[.slice ps syms.length cps, .slice pt terms.length cpt] 25 (0, 0)) := alloc_keep (alloc_at _ _ _ rfl)
  have e1 : ((w.alloc (.cells #[.slice ps syms.length cps, .slice pt terms.length cpt] 25)).alloc (.cells #[.slice pm ts.length cpm] 28)).heap[w.heap.size + 1]? = some (.cells #[.slice pm ts.length cpm] 28 (0, 0)) := alloc_at _ _ _ (by rw [size_alloc])
  have HC := hid (RCheck_any _ _ syms terms _ (Hs.out.below b0) (Ht.out.below b0) hn)
  rw [he] at HC
  have z0 : ((w.alloc (.cells #[.slice ps syms.length cps, .slice pt terms.length cpt] 25)).alloc (.cells #[.slice pm ts.length cpm] 28)).heap.size = w.heap.size + 1 + 1 := by rw [size_alloc, size_alloc]
  have B0 := hid b0; have E0 := hid e0; have E1 := hid e1; have Z0 := hid z0
  have HV := hid h
  have t2 : decide (ts.length < syms.length) = false := by simp; omega
  clear hn b0 he Hs Ht e0 e1 z0 hl h
  generalize syms.length = L0 at *
  generalize terms.length = L1 at *
  generalize ts.length = L2 at *
  go_enter Tryz.func12, Tryz.ntmps12
  go_wp2_with fail
  refine HC.out.mono ?_
  rintro e w1 ⟨rfl, b1⟩
  have x0 := two_cells ((b1.block w.heap.size (by have := Z0.out; omega)).trans E0.out)
  have x1 : w1.cell? ⟨w.heap.size + 1, 0, none⟩ = some (.slice pm L2 cpm) := by
    have h := (b1.block (w.heap.size + 1) (by have := Z0.out; omega)).trans E1.out
    simp [World.cell?, h]
  obtain ⟨x0, x2, -, -⟩ := x0
  have B1 := hid (bel_go b1 B0.out)
  clear HC b1
  go_wp2_with fail
  refine (HV.out w1 B1.out).mono ?_
  rintro e w2 ⟨v, rfl, hv, b2⟩
  obtain ⟨p, c, rfl, -⟩ := id hv
  have Hv := hid hv
  have B2 := hid (bel_go b2 B1.out)
  clear hv b2 x0 x1 x2
  go_wp2
  go_ret2
  exact ⟨_, rfl, Hv.out, B2.out⟩
set_option maxRecDepth 100000 in
set_option maxHeartbeats 3200000 in
theorem RTrue_any (vs vt vm : Value) (hv : ∃ p n c p' n' c' p2 n2 c2, vs = .slice p n c ∧ vt = .slice p' n' c' ∧ vm = .slice p2 n2 c2) (k : Nat) (l : List Int) (w : World) (hk : k < l.length) (hs : ∀ z ∈ l, sz Big.W z.natAbs ≤ 1099511627776)
    (h : ∀ w', Below w.heap.size w w' → Calls Tryz.prog 31 #[.agg #[vs, vt], .agg #[vm]] w' (RTold l w')) :
    Calls Tryz.prog 21 #[.agg #[vs, vt], .agg #[vm], .int .i64 (k : Nat)] w (RBool (l[k] != 0) w) := by
  obtain ⟨p, n, cc, p', n', c', p2, n2, c2, rfl, rfl, rfl⟩ := hv
  have b0 : Below w.heap.size w ((w.alloc (.cells #[.slice p n cc, .slice p' n' c'] 25)).alloc (.cells #[.slice p2 n2 c2] 28)) := (below1 w _).alloc (by simp) _
  have H := hid (h _ b0)
  have B0 := hid b0
  have Hs := hid hs
  have hki : (k : Int) < (l.length : Int) := by omega
  obtain ⟨x, hx⟩ : ∃ x, x = l[k] := ⟨_, rfl⟩
  rw [← hx]
  have HK := hid hk
  have Hx := hid hx
  obtain ⟨r, hr0⟩ : ∃ r : Bool, r = (x != 0) := ⟨_, rfl⟩
  rw [← hr0]
  have Hr0 := hid hr0
  clear h b0 hs hr0 hx
  go_enter Tryz.func21, Tryz.ntmps21
  go_wp2_with fail
  refine H.out.mono ?_
  rintro e w1 ⟨v1, rfl, hi, b1⟩
  have hat := (hi.in Hs.out).at k HK.out
  obtain ⟨b5, o5, c5, x5, q5, d5, g5, rfl, hb5, n0, n1, hr⟩ := hat
  have B1 := hid (bel_go b1 B0.out)
  rw [← Hx.out] at hr
  have HS := hid (RSign_any _ x w1 hr)
  have hsg : Hid ((x.sign != 0) = r) := hid (by rw [Hr0.out]; unfold bne; rw [sign_zero])
  generalize x.sign = sg at *
  clear H hi b1 hr
  go_wp2_with fail
  refine HS.out.mono ?_
  rintro e w2 ⟨rfl, b2⟩
  have B2 := hid (bel_go b2 B1.out)
  clear b2 HS n0 n1
  go_wp2
  go_ret
  exact ⟨by rw [← hsg.out]; rfl, B2.out⟩
end Go.Proofs.YtckkpolikdnilaaGreatDoor
/- elenchusref04.Few; PoolChecks answers true. -/
namespace Go.Proofs.YtckkpolikdnilaaGreatDoor
open Go.RowKit Big Go.WideMaps

def fewT (x : Tx) : Bool := decide (x.args.length ≤ 70) && decide (x.words.length ≤ 8)
def plFew (sy : List Sy) (tx : List Tx) : Bool := decide (sy.length ≤ 40) && decide (tx.length ≤ 200) && tx.all fewT
theorem TxsIn.below {w w' : World} {v : Value} {l : List Tx} (h : TxsIn w v l) (hb : Below w.heap.size w w') : TxsIn w' v l := by
  obtain ⟨p, cap, rfl, h1, h2, h3, h4⟩ := h
  refine ⟨p, cap, rfl, h1, h2, h3, fun hp => ?_⟩
  obtain ⟨b, off, h5, h6, h7⟩ := h4 hp
  refine ⟨b, off, h5, Nat.lt_of_lt_of_le h6 hb.size, fun i hi => ?_⟩
  obtain ⟨c0, c1, c2, c3, c4, e0, e1, e2, e3, e4, ht⟩ := h7 i hi
  have c : ∀ o, w'.cell? ⟨b, o, none⟩ = w.cell? ⟨b, o, none⟩ := fun o => hb.cell (p := ⟨b, o, none⟩) h6
  exact ⟨c0, c1, c2, c3, c4, (c _).trans e0, (c _).trans e1, (c _).trans e2, (c _).trans e3, (c _).trans e4, ht.below hb⟩
set_option maxRecDepth 100000 in
set_option maxHeartbeats 12800000 in
theorem RFew_any (va vb : Value) (sy : List Sy) (tx : List Tx) (w : World) (hs : SyIn w va sy) (ht : TxsIn w vb tx) : Calls Tryz.prog 9 #[.agg #[va, vb]] w (RBool (plFew sy tx) w) := by
  obtain ⟨pa, ca, rfl, a1, a2, -, -⟩ := hs
  obtain ⟨pb, cb, rfl, b1, b2, -, b4⟩ := ht
  have Hb4 := hid b4
  have bx := below1 w (.cells #[.slice pa sy.length ca, .slice pb tx.length cb] 25)
  have hx0 := heap_alloc_new w (.cells #[.slice pa sy.length ca, .slice pb tx.length cb] 25)
  obtain ⟨z0, z1, -, -⟩ := two_cells hx0
  obtain ⟨r, hr⟩ : ∃ r, r = plFew sy tx := ⟨_, rfl⟩
  rw [← hr]
  have Hr := hid hr
  clear hr b4 hx0
  unfold maxLen at a2 b2
  cases h40 : decide ((40 : Int) < (sy.length : Nat))
  case true =>
    have He := hid (show r = false by rw [Hr.out]; unfold plFew; rw [show decide (sy.length ≤ 40) = false by have := of_decide_eq_true h40; simp; omega]; rfl)
    go_enter Tryz.func9, Tryz.ntmps9
    go_wp2
    go_ret
    exact ⟨by rw [He.out]; rfl, bx⟩
  case false =>
  cases h200 : decide ((200 : Int) < (tx.length : Nat))
  case true =>
    have He := hid (show r = false by rw [Hr.out]; unfold plFew; rw [show decide (tx.length ≤ 200) = false by have := of_decide_eq_true h200; simp; omega]; simp)
    go_enter Tryz.func9, Tryz.ntmps9
    go_wp2
    go_ret
    exact ⟨by rw [He.out]; rfl, bx⟩
  case false =>
  have HR := hid (show r = tx.all fewT by
    rw [Hr.out]; unfold plFew
    rw [show decide (sy.length ≤ 40) = true by have := of_decide_eq_false h40; simp; omega, show decide (tx.length ≤ 200) = true by have := of_decide_eq_false h200; simp; omega]
    simp)
  go_enter Tryz.func9, Tryz.ntmps9
  go_wp2_with fail
  generalize hW : (w.alloc (.cells #[.slice pa sy.length ca, .slice pb tx.length cb] 25)) = W1 at *
  have HB1 := hid bx
  clear h40 h200 z0 z1 hW bx
  go_loopw [18] (fun i wr => ∃ k : Nat, k ≤ tx.length ∧ i = .int .i64 (k : Nat) ∧ Hid ((tx.take k).any (fun x => !fewT x) = false) ∧ Hid (Below W1.heap.size W1 wr)) (fun i _ => tx.length - (intOf i).toNat)
  case atStart => exact ⟨0, Nat.zero_le _, rfl, hid rfl, hid (Below.refl _ _)⟩
  case round =>
    obtain ⟨k, hk, rfl, hany, Hb⟩ := hrel
    have Hbw := hid (bel_go Hb.out HB1.out)
    by_cases hlt : k < tx.length
    · have hlt' : (k : Int) < (tx.length : Nat) := by omega
      obtain ⟨bb, off, rfl, j1, j2⟩ := Hb4.out (by omega)
      obtain ⟨c0, c1, c2, c3, c4, m0, m1, m2, m3, m4, hx⟩ := j2 k hlt
      have m0 := (Hbw.out.cell (p := ⟨bb, off + k * 5, none⟩) j1).trans m0
      have m1 := (Hbw.out.cell (p := ⟨bb, off + k * 5 + 1, none⟩) j1).trans m1
      have m2 := (Hbw.out.cell (p := ⟨bb, off + k * 5 + 2, none⟩) j1).trans m2
      have m3 := (Hbw.out.cell (p := ⟨bb, off + k * 5 + 3, none⟩) j1).trans m3
      have m4 := (Hbw.out.cell (p := ⟨bb, off + k * 5 + 4, none⟩) j1).trans m4
      have Hs1 := hid (any_take_succ (fun x => !fewT x) tx k hlt hany.out)
      have Hs2 := hid (any_of_at (fun x => !fewT x) tx k hlt)
      generalize tx[k] = x at *
      obtain ⟨pe, ce, pm, cm, ea, ⟨_, _, e5, k1, k2, -, -⟩, ⟨_, _, e6, k3, k4, -, -⟩, -⟩ := hx
      have ea' := agg5 ea
      obtain ⟨rfl, rfl, rfl, rfl, rfl⟩ := ea'
      cases e5; cases e6
      unfold maxLen at k2 k4
      have bt := below1 wr (.cells #[.int .i64 x.op, .slice pe x.args.length ce, .bool x.neg, .slice pm x.words.length cm, .int .i64 x.sym] 71)
      have Hbt := hid (Hb.out.trans (bt.mono Hb.out.size))
      clear j2 hany ea bt
      cases h70 : decide ((70 : Int) < (x.args.length : Nat))
      · cases h8 : decide ((8 : Int) < (x.words.length : Nat))
        · have Hf := hid (show (!fewT x) = false by
            unfold fewT
            rw [show decide (x.args.length ≤ 70) = true by have := of_decide_eq_false h70; simp; omega, show decide (x.words.length ≤ 8) = true by have := of_decide_eq_false h8; simp; omega]; rfl)
          go_wp2_with fail
          go_roundw
          case rel => exact ⟨k + 1, by omega, rfl, hid (Hs1.out Hf.out), Hbt⟩
          case measure => simp [intOf]; omega
        · have Hf := hid (show r = false by
            rw [HR.out, List.all_eq_not_any_not, Hs2.out (by
              show (!fewT x) = true
              unfold fewT
              rw [show decide (x.words.length ≤ 8) = false by have := of_decide_eq_true h8; simp; omega]; simp)]; rfl)
          go_wp2_with fail
          go_ret
          exact ⟨by rw [Hf.out]; rfl, bel_go Hbt.out HB1.out⟩
      · have Hf := hid (show r = false by
          rw [HR.out, List.all_eq_not_any_not, Hs2.out (by
            show (!fewT x) = true
            unfold fewT
            rw [show decide (x.args.length ≤ 70) = false by have := of_decide_eq_true h70; simp; omega]; simp)]; rfl)
        go_wp2_with fail
        go_ret
        exact ⟨by rw [Hf.out]; rfl, bel_go Hbt.out HB1.out⟩
    · have hkk : k = tx.length := by omega
      subst hkk
      have Hf := hid (show r = true by rw [HR.out, List.all_eq_not_any_not]; have := hany.out; rw [List.take_length] at this; rw [this]; rfl)
      go_wp2_with fail
      go_ret
      exact ⟨by rw [Hf.out]; rfl, Hbw.out⟩
theorem few_tm {sy : List Sy} {tx : List Tx} (h : plFew sy tx = true) : ∀ x ∈ tx, x.args.length ≤ 70 ∧ x.words.length ≤ 8 := by
  unfold plFew at h
  simp only [Bool.and_eq_true, List.all_eq_true] at h
  intro x hx
  have := h.2 x hx
  unfold fewT at this
  simpa using this
theorem few_sz (x : Tx) (h : x.words.length ≤ 8) (hs : Small W x.words) : sz W x.tm.num.natAbs ≤ 8 := by
  show sz W (sg x.neg (val W x.words)).natAbs ≤ 8
  rw [sg_natAbs]
  exact Nat.le_trans (sz_val W2 hs) h
theorem TxsIn.small {w : World} {v : Value} {l : List Tx} (h : TxsIn w v l) : ∀ x ∈ l, Small W x.words := by
  obtain ⟨p, cap, rfl, h1, h2, h3, h4⟩ := h
  intro x hx
  obtain ⟨i, hi, rfl⟩ := List.mem_iff_getElem.1 hx
  obtain ⟨b, off, -, -, hc⟩ := h4 (by omega)
  obtain ⟨c0, c1, c2, c3, c4, -, -, -, -, -, ⟨_, _, _, _, _, _, _, hs⟩⟩ := hc i hi
  exact hs
end Go.Proofs.YtckkpolikdnilaaGreatDoor
/- ValueEvals answers true. -/
namespace Go.Proofs.YtckkpolikdnilaaGreatDoor
open Go.RowKit Big Go.WideMaps

theorem steps_of_check {syms : List Sy} {terms : List Tm} (h : plCheck syms terms = 0) : Steps ⟨syms, [], []⟩ terms := by
  unfold plCheck at h
  split at h
  · next h1 => exact absurd h h1
  · exact steps_of_news terms ⟨syms, [], []⟩ (by simp) h
/-- what both Evals answer -/
def RBoth (syms : List Sy) (terms : List Tm) (ts : List Tb5) (w : World) (e : Ending) (w' : World) : Prop :=
  ∃ v c, e = .returned (.tuple #[v, .int .i64 c]) ∧ c = (if plCheck syms terms ≠ 0 then plCheck syms terms else if ts.length < syms.length then 13 else 0) ∧ NumsTold w' v (if plCheck syms terms ≠ 0 ∨ ts.length < syms.length then [] else vlEval syms ts terms []) ∧ Below w.heap.size w w'
theorem both_bad {syms : List Sy} {terms : List Tm} {ts : List Tb5} {w w' : World} {e : Ending} (he : plCheck syms terms ≠ 0) (h : RVlErr (plCheck syms terms) w e w') : RBoth syms terms ts w e w' := by
  obtain ⟨h1, h2⟩ := h
  exact ⟨_, _, h1, by rw [if_pos he], by rw [if_pos (.inl he)]; exact NumsTold.nil _, h2⟩
theorem both_miss {syms : List Sy} {terms : List Tm} {ts : List Tb5} {w w' : World} {e : Ending} (he : plCheck syms terms = 0) (hl : ts.length < syms.length) (h : RVlErr 13 w e w') : RBoth syms terms ts w e w' := by
  obtain ⟨h1, h2⟩ := h
  exact ⟨_, _, h1, by rw [if_neg (by simp [he]), if_pos hl], by rw [if_pos (.inr hl)]; exact NumsTold.nil _, h2⟩
theorem both_ok {syms : List Sy} {terms : List Tm} {ts : List Tb5} {w w' : World} {e : Ending} (he : plCheck syms terms = 0) (hl : syms.length ≤ ts.length) (h : RTVals (vlEval syms ts terms []) w e w') : RBoth syms terms ts w e w' := by
  obtain ⟨v, h1, h2, h3⟩ := h
  exact ⟨v, _, h1, by rw [if_neg (by simp [he]), if_neg (by omega)], by rw [if_neg (by simp [he]; omega)]; exact h2, h3⟩
/-- what is asked of rows and models that are asked about -/
structure VlAsk (N : Nat) (syms : List Sy) (terms : List Tm) (ts : List Tb5) : Prop where
  one : 1 ≤ N
  name : ∀ s ∈ syms, s.name.length ≤ 281474976710656
  args : ∀ t ∈ terms, t.args.length ≤ 1048576
  num : ∀ t ∈ terms, sz Big.W t.num.natAbs ≤ N
  len : terms.length * N ≤ 268435456
  sized : Sized N ts
  rows : Rows9 ts
theorem VlAsk.small {N : Nat} {syms : List Sy} {terms : List Tm} {ts : List Tb5} (h : VlAsk N syms terms ts) : ∀ t ∈ terms, sz Big.W t.num.natAbs ≤ 549755813888 := by
  intro t ht
  have h1 := h.num t ht
  have h2 : 0 < terms.length := List.length_pos_of_mem ht
  have h3 : N ≤ terms.length * N := Nat.le_mul_of_pos_left _ h2
  have h4 := h.len
  omega
theorem VlAsk.few {N : Nat} {syms : List Sy} {terms : List Tm} {ts : List Tb5} (h : VlAsk N syms terms ts) : terms.length ≤ 1048576 * 256 := Nat.le_trans (Nat.le_mul_of_pos_right _ h.one) (Nat.le_trans h.len (by decide))
theorem Eval_both {N : Nat} (vs vt vm : Value) (syms : List Sy) (terms : List Tm) (ts : List Tb5) (w : World) (htab : Tb w.heap.size w) (hs : SyIn w vs syms) (ht : TmsIn w vt terms) (hm : TabsIn w vm ts) (h : VlAsk N syms terms ts) (hL : terms.length ≤ 1048576) :
    Calls Tryz.prog 11 #[.agg #[vs, vt], .agg #[vm]] w (RBoth syms terms ts w) := by
  have ha : ∀ t ∈ terms, t.args.length ≤ 1099511627776 := fun t ht => Nat.le_trans (h.args t ht) (by decide)
  by_cases he : plCheck syms terms = 0
  · by_cases hl : ts.length < syms.length
    · exact (Eval_miss vs vt vm syms terms ts w htab hs ht hm h.name ha he hl).mono fun e w' hr => both_miss he hl hr
    · have hl' : syms.length ≤ ts.length := by omega
      have hst := steps_of_check he
      refine (Eval_ok vs vt vm syms terms ts w htab hs ht hm h.name h.args he hl' hL (fit_at h.one h.sized hst h.num hl' h.len)).mono fun e w' hr => ?_
      obtain ⟨v, h1, -, h2, h3⟩ := hr
      exact both_ok he hl' ⟨v, h1, h2, h3⟩
  · exact (Eval_bad vs vt vm syms terms ts w htab hs ht hm h.name ha he).mono fun e w' hr => both_bad he hr
theorem REval_both {N : Nat} (vs vt vm : Value) (syms : List Sy) (terms : List Tm) (ts : List Tb5) (w : World) (hs : SyIn w vs syms) (ht : TmsIn w vt terms) (hm : TabsIn w vm ts) (h : VlAsk N syms terms ts) :
    Calls Tryz.prog 12 #[.agg #[vs, vt], .agg #[vm]] w (RBoth syms terms ts w) := by
  by_cases he : plCheck syms terms = 0
  · by_cases hl : ts.length < syms.length
    · exact (REval_miss vs vt vm syms terms ts w hs ht hm h.small he hl).mono fun e w' hr => both_miss he hl hr
    · have hl' : syms.length ≤ ts.length := by omega
      have hst := steps_of_check he
      exact (REval_ok vs vt vm syms terms ts w hs ht hm h.small he hl' _ (fun w' hb => Values_any h.one vs vt vm syms terms ts w' (hs.below hb) (ht.below hb) (hm.below hb) hst h.args h.sized h.num hl' h.len h.rows)).mono fun e w' hr => both_ok he hl' hr
  · exact (REval_bad vs vt vm syms terms ts w hs ht hm h.small he).mono fun e w' hr => both_bad he hr
theorem TbxsIn.ask {w : World} {v : Value} {l : List Tbx} (h : TbxsIn w v l) (hf : ∀ x ∈ l, x.fit) : Rows9 (l.map Tbx.t) := by
  intro t ht
  obtain ⟨x, hx, rfl⟩ := List.mem_map.1 ht
  obtain ⟨i, hi, rfl⟩ := List.mem_iff_getElem.1 hx
  obtain ⟨b, o, c, cs, -, -, -, hq⟩ := h.at i hi
  exact hq.rows9 (hf _ hx)
set_option maxRecDepth 100000 in
set_option maxHeartbeats 12800000 in
theorem lawEvals_any (va vb vm : Value) (sy : List Sy) (tx : List Tx) (l : List Tbx) (w : World) (htab : Tb w.heap.size w) (hs : SyIn w va sy) (ht : TxsIn w vb tx) (hm : TbxsIn w vm l) (hn : ∀ s ∈ sy, s.name.length ≤ 281474976710656) :
    Calls Tryz.prog 3 #[.agg #[va, vb], .agg #[vm]] w (RBool true w) := by
  have Hs := hid hs; have Ht := hid ht; have Htab := hid htab; have HM := hid hm
  have hsm := ht.small
  obtain ⟨pa, ca, rfl, -, -, -, -⟩ := hs
  obtain ⟨pb, cb, rfl, t1, t2, -, -⟩ := ht
  obtain ⟨pm, cm, rfl, -, -, -, -⟩ := hm
  unfold maxLen at t2
  obtain ⟨W, hW⟩ : ∃ W, W = (w.alloc (.cells #[.slice pa sy.length ca, .slice pb tx.length cb] 25)).alloc (.cells #[.slice pm l.length cm] 28) := ⟨_, rfl⟩
  have b0 : Below w.heap.size w W := by rw [hW]; exact (below1 w _).alloc (by simp) _
  have e0 : W.heap[w.heap.size]? = some (.cells #[.slice pa sy.length ca, .slice pb tx.length cb] 25 (0, 0)) := by rw [hW]; exact alloc_keep (alloc_at _ _ _ rfl)
  have e1 : W.heap[w.heap.size + 1]? = some (.cells #[.slice pm l.length cm] 28 (0, 0)) := by rw [hW]; exact alloc_at _ _ _ (by rw [size_alloc])
  have z0 : W.heap.size = w.heap.size + 1 + 1 := by rw [hW, size_alloc, size_alloc]
  have HF := hid (fixed5_any W (tab_later htab b0))
  have B0 := hid b0; have E0 := hid e0; have E1 := hid e1; have Z0 := hid z0
  have Hsm := hid hsm
  have Hn := hid hn
  clear b0 e0 e1 z0 htab hsm hn
  obtain ⟨R, hR⟩ : ∃ R, R = tx.length := ⟨_, rfl⟩
  have HRl := hid hR
  rw [← hR] at hW E0 t1 Ht ⊢
  clear hR
  generalize hS0 : sy.length = S0 at *
  generalize hL0 : l.length = L0 at *
  go_enter Tryz.func3, Tryz.ntmps3
  go_upto_region 1 with fail
  rw [← hW]
  clear hW hS0 hL0
  go_wp2_with fail
  refine HF.out.mono ?_
  rintro e w1 ⟨rfl, b1⟩
  have B1 := hid (bel_go b1 B0.out)
  have F0 := hid ((b1.block w.heap.size (by have := Z0.out; omega)).trans E0.out)
  have F1 := hid ((b1.block (w.heap.size + 1) (by have := Z0.out; omega)).trans E1.out)
  have hz1 : w.heap.size + 1 < w1.heap.size := by have := b1.size; have := Z0.out; omega
  have y := two_cells F0.out
  obtain ⟨y0, y1, -, -⟩ := y
  have HFew := hid (RFew_any _ _ sy tx w1 (Hs.out.below B1.out) (by have := Ht.out; exact this.below B1.out))
  clear b1 E0 E1 HF B0 Z0
  go_wp2_with fail
  refine HFew.out.mono ?_
  rintro e w2 ⟨rfl, b2⟩
  clear y0 y1 HFew
  have B2 := hid (bel_go b2 B1.out)
  have F0 := hid ((b2.block w.heap.size (by omega)).trans F0.out)
  have F1 := hid ((b2.block (w.heap.size + 1) (by omega)).trans F1.out)
  have hz2 : w.heap.size + 1 < w2.heap.size := by have := b2.size; omega
  clear b2 B1
  cases hfew : plFew sy tx
  case false =>
    go_wp2_with fail
    go_ret
    exact ⟨rfl, B2.out⟩
  case true =>
  have hft := few_tm hfew
  have y := two_cells F0.out
  obtain ⟨y0, y1, -, -⟩ := y
  have y2 : w2.cell? ⟨w.heap.size + 1, 0, none⟩ = some (.slice pm L0 cm) := by have := F1.out; simp [World.cell?, this]
  have Hft := hid hft
  clear hft hfew
  cases h60 : decide ((60 : Int) < (R : Int))
  case true =>
    go_wp2_with fail
    go_ret
    exact ⟨rfl, B2.out⟩
  case false =>
  have h60' : Hid (R ≤ 60) := hid (by have := of_decide_eq_false h60; omega)
  have HFm := hid (RFewM_any _ l w2 (HM.out.below B2.out))
  go_wp2_with fail
  refine HFm.out.mono ?_
  rintro e w3 ⟨bf, rfl, hbf, b3⟩
  clear y0 y1 y2 h60 HFm
  have B3 := hid (bel_go b3 B2.out)
  have F0 := hid ((b3.block w.heap.size (by omega)).trans F0.out)
  have F1 := hid ((b3.block (w.heap.size + 1) (by omega)).trans F1.out)
  have hz3 : w.heap.size + 1 < w3.heap.size := by have := b3.size; omega
  have Hbf := hid hbf
  clear b3 B2 hbf
  cases bf
  case false =>
    go_wp2_with fail
    go_ret
    exact ⟨rfl, B3.out⟩
  case true =>
  have hfx := (Hbf.out rfl).2
  have htm := Ht.out.tms fun x hx => Nat.le_trans (Hft.out x hx).2 (by decide)
  have hask : VlAsk 8 sy (tx.map Tx.tm) (l.map Tbx.t) := {
    one := by decide
    name := Hn.out
    args := fun t h => by
      obtain ⟨x, hx, rfl⟩ := List.mem_map.1 h
      exact Nat.le_trans (Hft.out x hx).1 (by decide)
    num := fun t h => by
      obtain ⟨x, hx, rfl⟩ := List.mem_map.1 h
      exact few_sz x (Hft.out x hx).2 (Hsm.out x hx)
    len := by have := h60'.out; have := HRl.out; rw [List.length_map]; omega
    sized := fun t h => by
      have := HM.out.small hfx t h
      exact ⟨Nat.le_trans this.1 (by decide), fun r hr => Nat.le_trans (this.2 r hr) (by decide)⟩
    rows := HM.out.ask hfx }
  have hmt := HM.out.tabs hfx
  have HE := hid (Eval_both _ _ _ sy (tx.map Tx.tm) (l.map Tbx.t) w3 (tab_later Htab.out B3.out) (Hs.out.below B3.out) (htm.below B3.out) (hmt.below B3.out) hask (by have := h60'.out; have := HRl.out; rw [List.length_map]; omega))
  have HR := hid (fun w' (hb : Below w3.heap.size w3 w') => REval_both _ _ _ sy (tx.map Tx.tm) (l.map Tbx.t) w' (Hs.out.below (bel_go hb B3.out)) (htm.below (bel_go hb B3.out)) (hmt.below (bel_go hb B3.out)) hask)
  have y := two_cells F0.out
  obtain ⟨y0, y1, -, -⟩ := y
  have y2 : w3.cell? ⟨w.heap.size + 1, 0, none⟩ = some (.slice pm L0 cm) := by have := F1.out; simp [World.cell?, this]
  unfold RBoth at HE HR
  generalize (if plCheck sy (tx.map Tx.tm) ≠ 0 then plCheck sy (tx.map Tx.tm) else if (l.map Tbx.t).length < sy.length then 13 else 0) = er at *
  generalize (if plCheck sy (tx.map Tx.tm) ≠ 0 ∨ (l.map Tbx.t).length < sy.length then [] else vlEval sy (l.map Tbx.t) (tx.map Tx.tm) []) = res at *
  clear hfx htm hask hmt Hft Hbf
  go_wp2_with fail
  refine HE.out.mono ?_
  rintro e w4 ⟨v4, c4, rfl, rfl, hv4, b4⟩
  obtain ⟨p4, k4, rfl, -⟩ := id hv4
  have B4 := hid b4
  have F0 := hid ((b4.block w.heap.size (by omega)).trans F0.out)
  have F1 := hid ((b4.block (w.heap.size + 1) (by omega)).trans F1.out)
  have V4 := hid hv4
  clear y0 y1 y2 b4 hv4 HE
  have y := two_cells F0.out
  obtain ⟨y0, y1, -, -⟩ := y
  have y2 : w4.cell? ⟨w.heap.size + 1, 0, none⟩ = some (.slice pm L0 cm) := by have := F1.out; simp [World.cell?, this]
  go_wp2_with fail
  refine (HR.out w4 B4.out).mono ?_
  rintro e w5 ⟨v5, c5, rfl, rfl, hv5, b5⟩
  obtain ⟨p5, k5, rfl, -⟩ := id hv5
  have HSm := hid (SameInts_true _ _ res w5 (V4.out.below b5) hv5)
  have B5 := hid (bel_go b5 (bel_go B4.out B3.out))
  clear y0 y1 y2 b5 hv5 HR V4
  have ter : (c5 == c5) = true := by simp
  go_wp2_with fail
  refine HSm.out.mono ?_
  rintro e w6 ⟨rfl, b6⟩
  have B6 := hid (bel_go b6 B5.out)
  clear b6 HSm
  go_wp2
  go_ret
  exact ⟨rfl, B6.out⟩
end Go.Proofs.YtckkpolikdnilaaGreatDoor
/- The package-level tables that the rows list, as start-up lays them; a world that holds them. -/
namespace Go.Proofs.YtckkpolikdnilaaGreatDoor
open Go.ChangeShapes Go.WideShapes Go.ChangeAt Go.RowKit

theorem own : ownKnob Tryz.prog.godebug = none := by kernel_rfl
def tabPow : Array Value := #[.int .u64 1, .int .u64 10, .int .u64 100, .int .u64 1000, .int .u64 10000, .int .u64 100000, .int .u64 1000000, .int .u64 10000000, .int .u64 100000000, .int .u64 1000000000, .int .u64 10000000000, .int .u64 100000000000, .int .u64 1000000000000, .int .u64 10000000000000, .int .u64 100000000000000, .int .u64 1000000000000000, .int .u64 10000000000000000, .int .u64 100000000000000000, .int .u64 1000000000000000000, .int .u64 10000000000000000000]
def tab32 : Array Value := #[.int .u8 0, .int .u8 1, .int .u8 28, .int .u8 2, .int .u8 29, .int .u8 14, .int .u8 24, .int .u8 3, .int .u8 30, .int .u8 22, .int .u8 20, .int .u8 15, .int .u8 25, .int .u8 17, .int .u8 4, .int .u8 8, .int .u8 31, .int .u8 27, .int .u8 13, .int .u8 23, .int .u8 21, .int .u8 19, .int .u8 16, .int .u8 7, .int .u8 26, .int .u8 12, .int .u8 18, .int .u8 6, .int .u8 11, .int .u8 5, .int .u8 10, .int .u8 9]
def tab64 : Array Value := #[.int .u8 0, .int .u8 1, .int .u8 56, .int .u8 2, .int .u8 57, .int .u8 49, .int .u8 28, .int .u8 3, .int .u8 61, .int .u8 58, .int .u8 42, .int .u8 50, .int .u8 38, .int .u8 29, .int .u8 17, .int .u8 4, .int .u8 62, .int .u8 47, .int .u8 59, .int .u8 36, .int .u8 45, .int .u8 43, .int .u8 51, .int .u8 22, .int .u8 53, .int .u8 39, .int .u8 33, .int .u8 30, .int .u8 24, .int .u8 18, .int .u8 12, .int .u8 5, .int .u8 63, .int .u8 55, .int .u8 48, .int .u8 27, .int .u8 60, .int .u8 41, .int .u8 37, .int .u8 16, .int .u8 46, .int .u8 35, .int .u8 44, .int .u8 21, .int .u8 52, .int .u8 32, .int .u8 23, .int .u8 11, .int .u8 54, .int .u8 26, .int .u8 40, .int .u8 15, .int .u8 34, .int .u8 20, .int .u8 31, .int .u8 10, .int .u8 25, .int .u8 14, .int .u8 19, .int .u8 9, .int .u8 13, .int .u8 8, .int .u8 7, .int .u8 6]
/-- the object that block k holds behind start-up -/
def laidObj (k : Nat) (o : Obj) : Obj :=
  match o with
  | .cells c t frozen => if k = 0 then .cells tabPow t frozen else if k = 1 then .cells tab32 t frozen else if k = 2 then .cells tab64 t frozen else .cells c t frozen
  | o => o
noncomputable def laidWorld (os : Os) : World :=
  { World.holding Tryz.prog os ⟨#[], #[], []⟩ with heap := (((World.holding Tryz.prog os ⟨#[], #[], []⟩).heap.modify 0 (laidObj 0)).modify 1 (laidObj 1)).modify 2 (laidObj 2) }
end Go.Proofs.YtckkpolikdnilaaGreatDoor
