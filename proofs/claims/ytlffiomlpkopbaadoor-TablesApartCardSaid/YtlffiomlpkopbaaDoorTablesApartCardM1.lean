/- Texts put together: TbLawApart. -/
import Derived.Test.YtlffiomlpkopbaaDoorTablesTwiceCardM1
namespace Go.Proofs.YtlffiomlpkopbaaDoor
open Big

theorem tbTab_apart (l : List Ap) (k : Int) : tbTab (l.filter (fun a => decide (a.sym = k))) k = tbTab l k := by
  unfold tbTab
  rw [List.filter_filter]
  simp
theorem tbFault_part (syms : List Sy) (l : List Ap) (p : Ap → Bool) (h : tbFault syms l = 0) : tbFault syms (l.filter p) = 0 := by
  obtain ⟨h1, h2, h3⟩ := tbFault_zero h
  unfold tbFault
  rw [if_neg, if_neg, if_neg]
  · rw [tbClash_none]
    · simp
    · refine fun j hj => tbBad_of (fun x y hx hy hk => ?_) j hj
      obtain ⟨i, hi, e⟩ := List.mem_iff_getElem.1 (List.mem_filter.1 (List.getElem_mem hx)).1
      obtain ⟨i', hi', e'⟩ := List.mem_iff_getElem.1 (List.mem_filter.1 (List.getElem_mem hy)).1
      rw [← e, ← e'] at hk ⊢
      exact h3 i i' hi hi' hk
  · intro h
    obtain ⟨a, ha, hb⟩ := List.any_eq_true.1 h
    unfold tbBadCount at hb
    have := h2 a (List.mem_filter.1 ha).1
    simp [this] at hb
  · intro h
    obtain ⟨a, ha, hb⟩ := List.any_eq_true.1 h
    unfold tbNoSym at hb
    have := h1 a (List.mem_filter.1 ha).1
    simp at hb
    omega
end Go.Proofs.YtlffiomlpkopbaaDoor

/- elenchuslaw16.TablesApart. -/
namespace Go.Proofs.YtlffiomlpkopbaaDoor
open Go.RowKit Big Go.WideMaps

theorem tabs_at {syms : List Sy} {l : List Ap} {k : Nat} (h : k < syms.length) : ∃ h' : k < (tbTabs syms l).length, (tbTabs syms l)[k] = tbTab l (k : Nat) := by
  refine ⟨by unfold tbTabs; simpa using h, by unfold tbTabs; simp⟩
theorem tabs_len (syms : List Sy) (l : List Ap) : (tbTabs syms l).length = syms.length := by unfold tbTabs; simp
theorem filter_next (l : List Ap) (p : Ap → Bool) (j : Nat) (h : j < l.length) : (l.take (j + 1)).filter p = (l.take j).filter p ++ (if p l[j] then [l[j]] else []) := by
  rw [List.take_succ_eq_append_getElem h, List.filter_append]
  by_cases hp : p l[j] = true
  · simp [hp]
  · simp [hp]

set_option maxRecDepth 100000 in
set_option maxHeartbeats 12800000 in
theorem lawApart_any (vs v : Value) (syms : List Sy) (l : List Apx) (k0 : Int) (w : World) (hs : SysIn w vs syms) (h : ApxsIn w v l) (htab : Tb w.heap.size w) : Calls Tryd.prog 7 #[vs, v, .int .i64 k0] w (RBool true w) := by
  have HX := hid (fixed16_any w htab)
  have HF := hid (fun w' (hb : Below w.heap.size w w') => Few16_any v l w' (h.below hb))
  have Hin := hid (fun (hf : l.length ≤ 60 ∧ ∀ x ∈ l, x.fit) => h.aps hf.2)
  have Hsz := hid (fun (hf : l.length ≤ 60 ∧ ∀ x ∈ l, x.fit) => h.sz hf.2)
  have Hlm : Hid ((l.map Apx.a).length = l.length) := hid (List.length_map ..)
  have Hs := hid hs; have Htab := hid htab
  have hsh := hs
  obtain ⟨ps, cs, rfl, is1, is2, -, -⟩ := hsh
  have hsh := h
  obtain ⟨p, cap, rfl, i1, i2, -, -⟩ := hsh
  unfold maxLen at is2 i2
  obtain ⟨S, hS⟩ : ∃ S, S = syms.length := ⟨_, rfl⟩
  obtain ⟨L, hL⟩ : ∃ L, L = l.length := ⟨_, rfl⟩
  have HS := hid hS; have HL := hid hL
  rw [← hS] at is1 Hs ⊢
  rw [← hL] at i1 HF Hin Hsz Hlm ⊢
  clear h hs htab hS hL
  go_enter Tryd.func7, Tryd.ntmps7
  go_wp2_with fail
  refine HX.out.mono ?_
  rintro e w1 ⟨rfl, b1⟩
  have B1 := hid b1
  have HFb := hid (HF.out w1 b1)
  clear b1 HX HF
  by_cases h40 : S ≤ 40
  case neg =>
    have hd : decide ((40 : Int) < (S : Int)) = true := by simp; omega
    clear HFb
    go_wp2
    go_ret
    exact ⟨rfl, B1.out⟩
  have hd : decide ((40 : Int) < (S : Int)) = false := by simp; omega
  go_wp2_with fail
  refine HFb.out.mono ?_
  rintro e w2 ⟨bf, rfl, hfit, b2⟩
  have B2 := hid (tbGo b2 B1.out)
  clear b2 HFb
  cases bf with
  | false =>
    clear hfit
    go_wp2
    go_ret
    exact ⟨rfl, B2.out⟩
  | true =>
  have hfit := hfit rfl
  by_cases hk0 : k0 < 0
  · have hdk : decide (k0 < 0) = true := by simpa using hk0
    clear hfit
    go_wp2
    go_ret
    exact ⟨rfl, B2.out⟩
  have hdk : decide (k0 < 0) = false := by simpa using hk0
  by_cases hkS : (S : Int) ≤ k0
  · have hdS : decide ((S : Int) ≤ k0) = true := by simpa using hkS
    clear hfit
    go_wp2
    go_ret
    exact ⟨rfl, B2.out⟩
  have hdS : decide ((S : Int) ≤ k0) = false := by simpa using hkS
  have hA := Hin.out hfit
  have hZ := Hsz.out hfit
  have hll : (l.map Apx.a).length = L := Hlm.out
  have hL60 : L ≤ 60 := hfit.1
  generalize l.map Apx.a = al at *
  have HA := hid hA; have HZ := hid hZ; have Hll := hid hll
  obtain ⟨k, hkk⟩ : ∃ k : Nat, k0 = (k : Int) := ⟨k0.toNat, by omega⟩
  subst hkk
  have hkS' : k < S := by omega
  have hkSi : (k : Int) < (S : Int) := by omega
  have HAt := hid (fun (hp : 0 < al.length) => (show ApsIn w (.slice p L cap) al from hA).at hp)
  obtain ⟨pk, hpk⟩ : ∃ pk : Ap → Bool, pk = fun a => decide (a.sym = (k : Int)) := ⟨_, rfl⟩
  have HNx := hid (fun (j : Nat) (hj : j < al.length) => filter_next al pk j hj)
  have Hpk := hid (fun (a : Ap) => (show pk a = decide (a.sym = (k : Int)) by rw [hpk]))
  have H0 : Hid ((al.take 0).filter pk = []) := hid (by simp)
  have HAll : Hid ((al.take al.length).filter pk = al.filter pk) := hid (by rw [List.take_length])
  have HFl : Hid ((al.filter pk).length ≤ 60) := hid (Nat.le_trans (List.length_filter_le _ _) (by omega))
  have HZf : Hid (∀ a ∈ al.filter pk, ApSz a) := hid (fun a ha => hZ a (List.mem_filter.1 ha).1)
  have HPart := hid (fun (h0 : tbFault syms al = 0) => (show tbFault syms (al.filter pk) = 0 from tbFault_part syms al pk h0))
  have HTab : Hid (tbTab (al.filter pk) (k : Nat) = tbTab al (k : Nat)) := hid (by rw [hpk]; exact tbTab_apart al (k : Nat))
  have HFle := hid (fun (j : Nat) => (show ((al.take j).filter pk).length ≤ 60 from Nat.le_trans (List.length_filter_le _ _) (by simp; omega)))
  obtain ⟨ii, hii, hz0, hz1, hz2⟩ := info_parts infoApp16
  clear hfit Hin Hsz hA hZ hk0 hkS hdk hdS hpk hll Hlm
  have hdk : decide ((k : Int) < 0) = false := by simp
  have hdS : decide ((S : Int) ≤ (k : Int)) = false := by simp; omega
  have hdS2 : decide (S ≤ k) = false := by simp; omega
  go_upto_region 5 with fail
  go_wp2_with fail
  go_loopw [36, 7] (fun i vo wr => ∃ j : Nat, j ≤ L ∧ i = .int .i64 (j : Nat) ∧ Hid (OwnAps w2 w2.heap.size wr vo ((al.take j).filter pk)) ∧ Hid (Below w2.heap.size w2 wr)) (fun i _ _ => L - (intOf i).toNat)
  case atStart => exact ⟨0, Nat.zero_le _, rfl, hid (by rw [H0.out]; exact OwnAps.nil _ _ _), hid (Below.refl _ _)⟩
  case round =>
    obtain ⟨j, hj, rfl, HO, HB⟩ := hrel
    by_cases hlt : j < L
    · have hja : j < al.length := by rw [Hll.out]; exact hlt
      have hlt' : (j : Int) < (L : Int) := by omega
      have hbw := tbGo HB.out B2.out
      obtain ⟨b, o, rfl, hb, hc⟩ := HAt.out (by omega)
      obtain ⟨pa, ca, n1, q1, m1, d1, x0, x1, x2, x3, hq, -, -, -⟩ := hc j hja
      have x0 := (hbw.cell (p := ⟨b, o + j * 4, none⟩) hb).trans x0
      have x1 := (hbw.cell (p := ⟨b, o + j * 4 + 1, none⟩) hb).trans x1
      have x2 := (hbw.cell (p := ⟨b, o + j * 4 + 2, none⟩) hb).trans x2
      have x3 := (hbw.cell (p := ⟨b, o + j * 4 + 3, none⟩) hb).trans x3
      have Hq2 := hid (hq.below B2.out)
      have Hnx := hid (HNx.out j hja)
      have Hps := Hpk.out al[j]
      have hfle := HFle.out j
      obtain ⟨W3, hW3⟩ : ∃ W3, W3 = wr.alloc (.cells #[.int .i64 al[j].sym, .slice pa al[j].args.length ca, .bool n1, .slice q1 m1 d1] 34) := ⟨_, rfl⟩
      have b3 : Below wr.heap.size wr W3 := by rw [hW3]; exact below1 wr _
      have e3 : W3.heap[wr.heap.size]? = some (.cells #[.int .i64 al[j].sym, .slice pa al[j].args.length ca, .bool n1, .slice q1 m1 d1] 34 (0, 0)) := by rw [hW3]; exact heap_alloc_new wr _
      obtain ⟨y0, y1, y2, y3⟩ := cells4 e3
      have HO3 := hid (HO.out.below b3)
      have HB3 := hid (tbGo b3 HB.out)
      clear hc hq b3 e3 HO
      go_upto_region 9 with fail
      rw [← hW3]
      clear hW3 x0 x1 x2 x3
      by_cases hsk : al[j].sym = (k : Int)
      · have hds : (al[j].sym == (k : Int)) = true := by simpa using hsk
        have hp : pk al[j] = true := by rw [Hps]; simpa using hsk
        rw [hp, if_pos rfl] at Hnx
        have hsym : al[j].sym = (k : Int) := hsk
        have Hsym := hid hsym
        clear hsk hsym hp Hps
        obtain ⟨xs, hr, hjn⟩ := HO3.out.join
        generalize hfl : ((al.take j).filter pk).length = fl at *
        have hr4 := hr.alloc (.cells #[.int .i64 al[j].sym, .slice pa al[j].args.length ca, .bool n1, .slice q1 m1 d1] 34)
        have hn4 : ∀ q u, ([.int .i64 al[j].sym, .slice pa al[j].args.length ca, .bool n1, .slice q1 m1 d1] : List Value)[q]? = some u → (W3.alloc (.cells #[.int .i64 al[j].sym, .slice pa al[j].args.length ca, .bool n1, .slice q1 m1 d1] 34)).cell? ((⟨W3.heap.size, 0, none⟩ : Addr).add q) = some u := cellsAt (heap_alloc_new W3 _)
        have hb4 := below1 W3 (.cells #[.int .i64 al[j].sym, .slice pa al[j].args.length ca, .bool n1, .slice q1 m1 d1] 34)
        have hz4 := size_alloc W3 (.cells #[.int .i64 al[j].sym, .slice pa al[j].args.length ca, .bool n1, .slice q1 m1 d1] 34)
        have hzB := HB3.out.size
        have Hjn := hid hjn
        clear hjn hfl
        go_wp2_with (at_builtin; refine wpList_append_own _ rfl _ _ 22 rfl w2.heap.size 34 ii _ 4 64 Tryd.underlying22 hii hz0 hz1 hz2 rfl (by decide) _ fl xs rfl hr4 ⟨W3.heap.size, 0, none⟩ 1 1 [.int .i64 al[j].sym, .slice pa al[j].args.length ca, .bool n1, .slice q1 m1 d1] rfl rfl hn4 (by intro u hu; simp at hu; rcases hu with rfl | rfl | rfl | rfl <;> rfl) (by simp [maxLen]; omega) (by omega) (by omega) ?_; intro v7 w7 ho7 hg7 _)
        have HO7 := Hjn.out w7 v7 [[.int .i64 al[j].sym, .slice pa al[j].args.length ca, .bool n1, .slice q1 m1 d1]] [al[j]] (by simpa using ho7) rfl (by simp) (fun i hi hi' => by
          have hi0 : i = 0 := by simp at hi; omega
          subst hi0
          exact Hq2.out)
        have HO8 : Hid (OwnAps w2 w2.heap.size w7 v7 ((al.take (j + 1)).filter pk)) := hid (by rw [Hnx.out]; exact HO7)
        have HB8 : Hid (Below w2.heap.size w2 w7) := hid ((tbGo hb4 HB3.out).grown hg7 (by omega) (fun g hg => (World.ownsRow.lt hr4 g hg).1))
        clear HO7 ho7 hg7 hr4 hn4 hb4 hz4 hr
        go_roundw
        case rel => exact ⟨j + 1, by omega, by go_num, HO8, HB8⟩
        case measure => simp [intOf]; omega
      · have hds : (al[j].sym == (k : Int)) = false := by simpa using hsk
        have hp : pk al[j] = false := by rw [Hps]; simpa using hsk
        rw [hp, if_neg (by simp), List.append_nil] at Hnx
        have HO8 : Hid (OwnAps w2 w2.heap.size W3 _ ((al.take (j + 1)).filter pk)) := hid (by rw [Hnx.out]; exact HO3.out)
        clear hsk hp Hps HO3
        go_wp2_with fail
        go_roundw
        case rel => exact ⟨j + 1, by omega, by go_num, HO8, HB3⟩
        case measure => simp [intOf]; omega
    · obtain rfl : j = L := by omega
      have hO := HO.out
      rw [← Hll.out, HAll.out] at hO
      have hown := hO.in HB.out
      have hbw := tbGo HB.out B2.out
      obtain ⟨pq, cq, rfl⟩ := hO.shape
      have hl1 : al.length ≤ 1000 := by have := Hll.out; omega
      have HD1 := hid (Build_ans _ _ syms al wr (Hs.out.below hbw) ((show ApsIn w (.slice p j cap) al from HA.out).below hbw) HZ.out hl1 (by have := HS.out; omega) (tab_later Htab.out hbw))
      have HD2 := hid (fun w' (hb : Below wr.heap.size wr w') => Build_ans _ _ syms (al.filter pk) w' (Hs.out.below (tbGo hb hbw)) (hown.below hb) HZf.out (by have := HFl.out; omega) (by have := HS.out; omega) (tab_later Htab.out (tbGo hb hbw)))
      have HBw := hid hbw
      generalize (al.filter pk).length = fl at *
      clear hO hown hbw hl1 HO
      go_wp2_with fail
      refine HD1.out.mono ?_
      rintro e w8 ⟨p8, n8, c8, rfl, ht8, hn8, b8⟩
      obtain ⟨W9, hW9⟩ : ∃ W9, W9 = w8.alloc (.cells #[.slice p8 n8 c8] 37) := ⟨_, rfl⟩
      have b9 : Below w8.heap.size w8 W9 := by rw [hW9]; exact below1 w8 _
      have e9 : W9.heap[w8.heap.size]? = some (.cells #[.slice p8 n8 c8] 37 (0, 0)) := by rw [hW9]; exact heap_alloc_new w8 _
      have E9 := hid e9
      have B9 := hid (tbGo b9 b8)
      have HT9 := hid (ht8.below b9)
      have HD2b := hid (HD2.out W9 B9.out)
      have hz9 : w8.heap.size < W9.heap.size := (Array.getElem?_eq_some_iff.1 e9).1
      have Hn8 := hid hn8
      clear b8 b9 e9 ht8 HD1 HD2 hn8
      go_upto_region 13 with fail
      rw [← hW9]
      clear hW9
      go_wp2_with fail
      refine HD2b.out.mono ?_
      rintro e w10 ⟨p10, n10, c10, rfl, ht10, hn10, b10⟩
      obtain ⟨W11, hW11⟩ : ∃ W11, W11 = w10.alloc (.cells #[.slice p10 n10 c10] 37) := ⟨_, rfl⟩
      have b11 : Below w10.heap.size w10 W11 := by rw [hW11]; exact below1 w10 _
      have e11 : W11.heap[w10.heap.size]? = some (.cells #[.slice p10 n10 c10] 37 (0, 0)) := by rw [hW11]; exact heap_alloc_new w10 _
      have E11 := hid e11
      have E911 := hid (((tbGo b11 b10).block w8.heap.size hz9).trans E9.out)
      have B11 := hid (tbGo (tbGo b11 b10) (tbGo B9.out HBw.out))
      have HT11 := hid (HT9.out.below (tbGo b11 b10))
      have HU11 := hid (ht10.below b11)
      have Hn10 := hid hn10
      clear b10 b11 e11 ht10 HD2b hn10 HT9
      go_upto_region 14 with fail
      rw [← hW11]
      clear hW11
      by_cases h0 : tbFault syms al = 0
      · have h0f := HPart.out h0
        have ht1 := HT11.out
        have ht2 := HU11.out
        have hn8 := Hn8.out
        have hn10 := Hn10.out
        unfold tbAns at ht1 ht2 hn8 hn10
        rw [if_pos h0] at ht1 hn8
        rw [if_pos h0f] at ht2 hn10
        rw [tabs_len, ← HS.out] at hn8 hn10
        have hn8 := hn8.symm
        have hn10 := hn10.symm
        subst hn8
        subst hn10
        have hkl : k < syms.length := by rw [← HS.out]; exact hkS'
        obtain ⟨hk1, hk2⟩ := tabs_at (syms := syms) (l := al) hkl
        obtain ⟨hk3, hk4⟩ := tabs_at (syms := syms) (l := al.filter pk) hkl
        obtain ⟨_, _, eq1, -, -, -, f4⟩ := ht1
        injection eq1 with g1 g2 g3
        subst g1 g3
        clear g2
        obtain ⟨_, _, eq2, -, -, -, f5⟩ := ht2
        injection eq2 with g4 g5 g6
        subst g4 g6
        clear g5
        obtain ⟨b8, o8, rfl, hb8, -, hc8⟩ := f4 (by omega)
        obtain ⟨b10, o10, rfl, hb10, -, hc10⟩ := f5 (by omega)
        obtain ⟨ca, ka, ta⟩ := hc8 k hk1
        obtain ⟨cb, kb, tb⟩ := hc10 k hk3
        rw [hk2] at ta
        rw [hk4, HTab.out] at tb
        have hta := ta.parts
        obtain ⟨p1, l1, n1, q1, m1, d1, rfl, -⟩ := hta
        have htb := tb.parts
        obtain ⟨p2, l2, n2, q2, m2, d2, rfl, -⟩ := htb
        have hsz := tbTab_sz HZ.out ((k : Nat) : Int)
        have HSm := hid (fun W' (hw : Below W11.heap.size W11 W') => SameTable_true _ _ _ _ (tbTab al ((k : Nat) : Int)) W' (ta.apart (S := fun _ => False) (Apart.of_below hw) (fun _ _ h => h) (fun _ h => h.elim)) (tb.apart (S := fun _ => False) (Apart.of_below hw) (fun _ _ h => h) (fun _ h => h.elim)) hsz)
        have HSS : Hid (∀ w', Below W11.heap.size W11 w' → w'.cell? ⟨w8.heap.size, 0, none⟩ = some (.slice (some ⟨b8, o8, none⟩) S c8) ∧ w'.cell? ⟨w10.heap.size, 0, none⟩ = some (.slice (some ⟨b10, o10, none⟩) S c10) ∧ w'.cell? ⟨b8, o8 + k * 3, none⟩ = some (.slice p1 (tbTab al ((k : Nat) : Int)).rows.length l1) ∧ w'.cell? ⟨b8, o8 + k * 3 + 1, none⟩ = some (.bool n1) ∧ w'.cell? ⟨b8, o8 + k * 3 + 2, none⟩ = some (.slice q1 m1 d1) ∧ w'.cell? ⟨b10, o10 + k * 3, none⟩ = some (.slice p2 (tbTab al ((k : Nat) : Int)).rows.length l2) ∧ w'.cell? ⟨b10, o10 + k * 3 + 1, none⟩ = some (.bool n2) ∧ w'.cell? ⟨b10, o10 + k * 3 + 2, none⟩ = some (.slice q2 m2 d2) ∧ Below W11.heap.size W11 w') := hid fun w' hw => by
          exact ⟨model_box ((hw.block w8.heap.size (Array.getElem?_eq_some_iff.1 E911.out).1).trans E911.out), model_box ((hw.block w10.heap.size (Array.getElem?_eq_some_iff.1 E11.out).1).trans E11.out), (hw.cell (p := ⟨b8, o8 + k * 3, none⟩) hb8).trans (ka 0 _ rfl), (hw.cell (p := ⟨b8, o8 + k * 3 + 1, none⟩) hb8).trans (ka 1 _ rfl), (hw.cell (p := ⟨b8, o8 + k * 3 + 2, none⟩) hb8).trans (ka 2 _ rfl), (hw.cell (p := ⟨b10, o10 + k * 3, none⟩) hb10).trans (kb 0 _ rfl), (hw.cell (p := ⟨b10, o10 + k * 3 + 1, none⟩) hb10).trans (kb 1 _ rfl), (hw.cell (p := ⟨b10, o10 + k * 3 + 2, none⟩) hb10).trans (kb 2 _ rfl), hw⟩
        generalize (tbTab al ((k : Nat) : Int)).rows.length = na at *
        rw [h0, h0f]
        have h00 : ((0 : Int) != 0) = false := rfl
        have h01 : ((0 : Int) == 0) = true := rfl
        have hSS : ((S : Int) == (S : Int)) = true := by simp
        clear f4 f5 hc8 hc10 ta tb ka kb hk1 hk2 hk3 hk4 hsz h0 h0f HT11 HU11 Hn8 Hn10
        go_upto_region 16 with fail
        go_region_held3 (fun w' => w'.cell? ⟨w8.heap.size, 0, none⟩ = some (.slice (some ⟨b8, o8, none⟩) S c8) ∧ w'.cell? ⟨w10.heap.size, 0, none⟩ = some (.slice (some ⟨b10, o10, none⟩) S c10) ∧ w'.cell? ⟨b8, o8 + k * 3, none⟩ = some (.slice p1 na l1) ∧ w'.cell? ⟨b8, o8 + k * 3 + 1, none⟩ = some (.bool n1) ∧ w'.cell? ⟨b8, o8 + k * 3 + 2, none⟩ = some (.slice q1 m1 d1) ∧ w'.cell? ⟨b10, o10 + k * 3, none⟩ = some (.slice p2 na l2) ∧ w'.cell? ⟨b10, o10 + k * 3 + 1, none⟩ = some (.bool n2) ∧ w'.cell? ⟨b10, o10 + k * 3 + 2, none⟩ = some (.slice q2 m2 d2) ∧ Below W11.heap.size W11 w')
          (first | exact HSS.out _ (Below.drew (Below.refl _ _)) | (refine HSS.out _ (tbGo hb1 ?_); go_split_ands; assumption))
          (first | (go_at_call 19; (with_reducible refine (HSm.out _ (by go_split_ands; assumption)).mono ?_); rintro e w1 ⟨rfl, hb1⟩))
        go_split_ands
        have HBb := hid (show Below W11.heap.size W11 _ by assumption)
        go_wp2
        go_ret
        exact ⟨rfl, tbGo HBb.out B11.out⟩
      · have h00 : (tbFault syms al != 0) = true := by simpa using h0
        generalize tbFault syms al = tf at *
        clear h0
        go_wp2
        go_ret
        exact ⟨rfl, B11.out⟩
end Go.Proofs.YtlffiomlpkopbaaDoor
