/- Texts put together: VlLawHolds. -/
import Derived.Test.YtckkpolikdnilaaGreatDoorValueOpposesCardM6
import Derived.Deep.DeepCutAuto
/- ValueHolds answers true. -/
namespace Go.Proofs.YtckkpolikdnilaaGreatDoor
open Go.RowKit Big Go.WideMaps

set_option maxRecDepth 100000 in
set_option maxHeartbeats 12800000 in
theorem lawHolds_any (va vb : Value) (bs ds : List Nat) (t : Int) (w : World) (htab : Tb w.heap.size w) (hb : At w .u8 va bs) (hs : ∀ y ∈ bs, y < 256) (hd : At w .u8 vb ds) (hsd : ∀ y ∈ ds, y < 256) :
    Calls Tryz.prog 5 #[va, vb, .int .i64 t] w (RBool true w) := by
  have Hb := hid hb; have Hs := hid hs; have Htab := hid htab; have Hd := hid hd; have Hsd := hid hsd
  obtain ⟨pa, ca, rfl, i1, i2, -, -⟩ := hb
  obtain ⟨pb, cb, rfl, j1, j2, -, -⟩ := hd
  unfold maxLen at i2 j2
  have Hfx := hid (fixed5_any w htab)
  clear htab hs hsd
  go_enter Tryz.func5, Tryz.ntmps5
  go_wp2_with fail
  refine Hfx.out.mono ?_
  rintro e w1 ⟨rfl, b1⟩
  have Hb1 := hid b1
  clear b1 Hfx
  cases h300 : decide ((300 : Int) < (bs.length : Int))
  case true =>
    go_wp2
    go_ret
    exact ⟨rfl, Hb1.out⟩
  case false =>
  cases h200 : decide ((200 : Int) < (ds.length : Int))
  case true =>
    go_wp2
    go_ret
    exact ⟨rfl, Hb1.out⟩
  case false =>
  have b2 := below1 w1 (.cells #[.slice pa bs.length ca, .int .i64 0] 54)
  have hc2 := heap_alloc_new w1 (.cells #[.slice pa bs.length ca, .int .i64 0] 54)
  have HT := hid (show TpIn w (w1.alloc (.cells #[.slice pa bs.length ca, .int .i64 0] 54)) w1.heap.size (.slice pa bs.length ca) bs from ⟨Hb.out, Hs.out, Hb1.out.size, bel_go b2 Hb1.out, 0, Nat.zero_le _, hc2⟩)
  have HR := hid (Rows_mk HT.out)
  clear b2 hc2 HT
  go_wp2_with fail
  refine HR.out.mono ?_
  rintro e w3 ⟨vr, p, rfl, hrw, hmk, hsy, hb3, hf3⟩
  obtain ⟨a0, a1, rfl, hs3, ht3⟩ := hrw
  have HMk := hid hmk; have Hsy := hid hsy; have HB3 := hid hb3; have HS3 := hid hs3; have HT3 := hid ht3
  obtain ⟨p1, c1, rfl, -⟩ := hs3
  obtain ⟨p2, c2, rfl, -⟩ := ht3
  have b4 := below1 w3 (.cells #[.slice p1 p.syms.length c1, .slice p2 p.terms.length c2] 25)
  have n4 := heap_alloc_new w3 (.cells #[.slice p1 p.syms.length c1, .slice p2 p.terms.length c2] 25)
  have z4 := size_alloc w3 (.cells #[.slice p1 p.syms.length c1, .slice p2 p.terms.length c2] 25)
  generalize hW4 : w3.alloc (.cells #[.slice p1 p.syms.length c1, .slice p2 p.terms.length c2] 25) = W4 at *
  have b5 := below1 W4 (.cells #[.slice pb ds.length cb, .int .i64 0] 54)
  have n5 := heap_alloc_new W4 (.cells #[.slice pb ds.length cb, .int .i64 0] 54)
  have z5 := size_alloc W4 (.cells #[.slice pb ds.length cb, .int .i64 0] 54)
  generalize hW5 : W4.alloc (.cells #[.slice pb ds.length cb, .int .i64 0] 54) = W5 at *
  have b35 : Below w3.heap.size w3 W5 := bel_go b5 b4
  have hz3 := hb3.size
  have HT5 : TpIn w W5 W4.heap.size (.slice pb ds.length cb) ds := ⟨Hd.out, Hsd.out, by omega, bel_go b35 hb3, 0, Nat.zero_le _, n5⟩
  have N4 := hid ((b5.block w3.heap.size (by omega)).trans n4)
  have HMod := hid (Model_any HT5 (.slice p1 p.syms.length c1) p.syms (fun w' hA => HS3.out.below (b35.trans (hA.below (B := w3.heap.size) b35.size (fun i hi => by
    have hi : i = W4.heap.size := hi
    omega)))) (by rw [Hsy.out]; decide) (by rw [Hsy.out]; decide))
  rw [z4] at HMod
  have B35 := hid b35
  have y4 := two_cells N4.out
  obtain ⟨y0, y1, -, -⟩ := y4
  have y0' := (two_cells n4).1
  clear b4 b5 n4 n5 HT5 b35 hmk hsy hf3 HR
  go_wp2_with fail
  refine HMod.out.mono ?_
  rintro e w6 ⟨vm, ts, rfl, hown, htl, hts, -, hA6⟩
  obtain ⟨pm, cm, rfl⟩ := hown.shape
  have b36 : Below w3.heap.size w3 w6 := B35.out.trans (hA6.below (B := w3.heap.size) B35.out.size (fun i hi => by
    have hi : i = w3.heap.size + 1 := hi
    omega))
  have n6 := (hA6.block w3.heap.size (by omega) (fun hi => by
    have hi : w3.heap.size = w3.heap.size + 1 := hi
    omega)).trans N4.out
  have hz6 := hA6.size
  have b7 := below1 w6 (.cells #[.slice pm ts.length cm] 28)
  have n7 := heap_alloc_new w6 (.cells #[.slice pm ts.length cm] 28)
  have z7 := size_alloc w6 (.cells #[.slice pm ts.length cm] 28)
  generalize hW7 : w6.alloc (.cells #[.slice pm ts.length cm] 28) = W7 at *
  have b37 := bel_go b7 b36
  have HS7 := hid (HS3.out.below b37); have HT7 := hid (HT3.out.below b37); have HM7 := hid ((OwnTabs.tabs hown hts).below b7)
  have HB7 := hid (bel_go b37 HB3.out)
  have N7 := hid n7; have N6 := hid ((b7.block w3.heap.size (by omega)).trans n6)
  have hg67 : w3.heap.size < w6.heap.size := by omega
  have hg7 : w6.heap.size < W7.heap.size := by omega
  have Hts := hid hts
  have hlt7 : p.syms.length ≤ ts.length := by omega
  have HE := hid (fun w' (hb : Below W7.heap.size W7 w') => mk_eval HMk.out Hsy.out Hts.out hlt7 _ _ _ w' (tab_later Htab.out (bel_go hb HB7.out)) (HS7.out.below hb) (HT7.out.below hb) (HM7.out.below hb))
  have HV := hid (fun w' (hb : Below W7.heap.size W7 w') => mk_values HMk.out Hsy.out Hts.out hlt7 _ _ _ w' (HS7.out.below hb) (HT7.out.below hb) (HM7.out.below hb))
  have Hsz := hid (mk_size HMk.out Hsy.out Hts.out)
  have Hlen := hid (eval_len p.syms ts p.terms)
  have Hσ := hid (sorts_good HMk.out.good)
  have HSo := hid (fun k w' (hb : Below W7.heap.size W7 w') (hk : k < p.terms.length) => RSort_any p HMk.out.good k (.agg #[.slice p1 p.syms.length c1, .slice p2 p.terms.length c2]) w' ⟨_, _, rfl, HS7.out.below hb, HT7.out.below hb⟩ hk)
  clear b7 n7 n6 b36 b37 hown hts hA6 HMod hlt7 HS3 HT3 HB3 B35
  generalize vlEval p.syms ts p.terms [] = L at *
  have y6 := two_cells N6.out
  have m0 := (one_cell N7.out).1
  obtain ⟨x0, x1, -, -⟩ := y6
  clear y0 y1 htl
  by_cases ht : t < 0 ∨ (p.terms.length : Int) ≤ t
  · have HH := hid (Holds_out _ _ _ ⟨_, _, _, _, _, _, _, _, _, rfl, rfl, rfl⟩ t L W7 (by have := Hlen.out; omega) HE.out)
    clear HE HV
    go_wp2_with fail
    refine HH.out.mono ?_
    rintro e w8 ⟨rfl, b8⟩
    have n8 := (b8.block w3.heap.size (by omega)).trans N6.out
    have q := two_cells n8
    have HB8 := hid (bel_go b8 HB7.out)
    clear x0 x1 m0 b8
    obtain ⟨x0, x1, -, -⟩ := q
    by_cases ht0 : t < 0
    · have t1 : decide (t < 0) = true := by simpa using ht0
      go_wp2
      go_ret
      exact ⟨rfl, HB8.out⟩
    · have t1 : decide (t < 0) = false := by simpa using ht0
      have t2 : decide ((p.terms.length : Int) ≤ t) = true := by simp; omega
      go_wp2
      go_ret
      exact ⟨rfl, HB8.out⟩
  · obtain ⟨k, rfl⟩ : ∃ k : Nat, t = (k : Nat) := ⟨t.toNat, by omega⟩
    have hkt : k < p.terms.length := by omega
    have hkl : k < L.length := by rw [Hlen.out]; exact hkt
    have HH := hid (Holds_in (.slice p1 p.syms.length c1) (.slice p2 p.terms.length c2) (.slice pm ts.length cm) ⟨_, _, _, rfl⟩ p.syms p.terms _ L k W7 HS7.out HT7.out Hσ.out hkt Hlen.out HE.out)
    have HTr := hid (fun w' (hb : Below W7.heap.size W7 w') => RTrue_any (.slice p1 p.syms.length c1) (.slice p2 p.terms.length c2) (.slice pm ts.length cm) ⟨_, _, _, _, _, _, _, _, _, rfl, rfl, rfl⟩ k L w' hkl Hsz.out (fun w2 hb2 => HV.out w2 (bel_go hb2 hb)))
    have HSk := hid (fun w' (hb : Below W7.heap.size W7 w') => HSo.out k w' hb hkt)
    have hnlt : ¬ p.terms.length ≤ k := by omega
    clear HE HV HSo ht
    generalize plSortAt p (k : Nat) = σ at *
    generalize (L[k] != 0) = yes at *
    by_cases hσ : σ = 1
    · have h1 : (σ == 1) = true := by simpa using hσ
      rw [h1, if_pos hσ, Bool.true_and] at HH
      rw [hσ] at HSk
      clear h1 hσ
      go_wp2_with fail
      refine HH.out.mono ?_
      rintro e w8 ⟨rfl, b8⟩
      have n8 := (b8.block w3.heap.size (by omega)).trans N6.out
      have q := two_cells n8
      have B8 := hid b8
      have N8 := hid n8
      have M8 := hid ((b8.block w6.heap.size (by omega)).trans N7.out)
      have hz8 := b8.size
      clear x0 x1 m0 b8 n8
      obtain ⟨x0, x1, -, -⟩ := q
      go_wp2_with fail
      refine (HSk.out w8 B8.out).mono ?_
      rintro e w9 ⟨rfl, b9⟩
      have n9 := (b9.block w3.heap.size (by omega)).trans N8.out
      have q := two_cells n9
      have m9 := (one_cell ((b9.block w6.heap.size (by omega)).trans M8.out)).1
      have B9 := hid (bel_go b9 B8.out)
      clear x0 x1 b9 n9
      obtain ⟨x0, x1, -, -⟩ := q
      go_wp2_with fail
      refine (HTr.out w9 B9.out).mono ?_
      rintro e w10 ⟨rfl, b10⟩
      have HF := hid (bel_go b10 (bel_go B9.out HB7.out))
      clear x0 x1 m9 b10
      go_wp2
      go_ret
      exact ⟨by cases yes <;> rfl, HF.out⟩
    · have h1 : (σ == 1) = false := by simpa using hσ
      have h2 : (σ != 1) = true := by simpa using hσ
      rw [h1, if_neg hσ, Bool.false_and] at HH
      clear h1 hσ HTr
      go_wp2_with fail
      refine HH.out.mono ?_
      rintro e w8 ⟨rfl, b8⟩
      have n8 := (b8.block w3.heap.size (by omega)).trans N6.out
      have q := two_cells n8
      have B8 := hid b8
      clear x0 x1 m0 b8 n8
      obtain ⟨x0, x1, -, -⟩ := q
      go_wp2_with fail
      refine (HSk.out w8 B8.out).mono ?_
      rintro e w9 ⟨rfl, b9⟩
      have HF := hid (bel_go b9 (bel_go B8.out HB7.out))
      clear x0 x1 b9
      go_wp2
      go_ret
      exact ⟨rfl, HF.out⟩
end Go.Proofs.YtckkpolikdnilaaGreatDoor
