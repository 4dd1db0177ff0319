/- Texts put together: LawMakes, LawRProducts, LawRSums. -/
import Derived.Test.YteiniokddopacaaRSumsCardM1
/- elenchuslaw02.RatioMakes answers true. -/
namespace Go.Proofs.Yteiniokddopacaa
open Go.RowKit Big

def NumIn (w : World) (v : Value) (k : Nat) : Prop := ∃ neg p c l, v = .agg #[.bool neg, .slice p k c] ∧ At w .u64 (.slice p k c) l ∧ Small W l ∧ l.length = k
theorem NumIn.below {w w' : World} {v : Value} {k : Nat} (h : NumIn w v k) (hb : Below w.heap.size w w') : NumIn w' v k := by
  obtain ⟨neg, p, c, l, hv, h0, r⟩ := h
  exact ⟨neg, p, c, l, hv, h0.below hb, r⟩
theorem NumIn.le {w : World} {v : Value} {k : Nat} (h : NumIn w v k) : k ≤ 9223372036854775807 := by
  obtain ⟨neg, p, c, l, hv, h0, -, e0⟩ := h
  obtain ⟨_, _, hv0, a0, b0, -⟩ := h0
  unfold maxLen at b0
  omega
theorem NumIn.raw {w : World} {v : Value} {k : Nat} (h : NumIn w v k) (hk : k ≤ 4) : ∃ p, RawAt w v p ∧ sz W p.natAbs ≤ 4 := by
  obtain ⟨neg, p, c, l, rfl, h0, s0, rfl⟩ := h
  exact ⟨_, ⟨neg, _, l, rfl, h0, s0, by omega, rfl⟩, by rw [sg_natAbs]; exact Nat.le_trans (sz_val W2 s0) hk⟩
theorem numIn {w : World} {v : Value} (h : ∃ neg s l, v = .agg #[.bool neg, s] ∧ At w .u64 s l ∧ Small W l) : ∃ k, NumIn w v k := by
  obtain ⟨neg, s, l, rfl, ha, hs⟩ := h
  obtain ⟨p, c, rfl, r⟩ := id ha
  exact ⟨_, neg, p, c, l, rfl, ha, hs, rfl⟩
theorem three {w : World} {a b c : Value} (t : TypeId) (j : Nat) : (w.alloc (.cells #[a, b, c] t)).cell? ⟨w.heap.size, j, none⟩ = #[a, b, c][j]? := cell_of_row _ _ j _ t (0, 0) (heap_alloc_new w _)

set_option maxRecDepth 100000 in
set_option maxHeartbeats 6400000 in
theorem lawMakes_any (v0 v1 : Value) (k0 k1 : Nat) (w : World) (h0 : NumIn w v0 k0) (h1 : NumIn w v1 k1) :
    Calls Try.prog 3 #[v0, v1] w (RBool true w) := by
  have H0 := hid h0; have H1 := hid h1
  have m0 := h0.le; have m1 := h1.le
  obtain ⟨a0, a1, a2, -, rfl, -⟩ := h0
  obtain ⟨b0, b1, b2, -, rfl, -⟩ := h1
  have hf := fun o o' => fixed2_any ((w.alloc o).alloc o')
  have Hf := hid hf
  clear hf
  go_enter Try.func3, Try.ntmps3
  go_wp2_with fail
  refine (Hf.out _ _).mono ?_
  rintro e u1 ⟨rfl, g1⟩
  have ra := ((Rec.new w #[.bool a0, .slice a1 k0 a2] 25).below (below1 _ (.cells #[.bool b0, .slice b1 k1 b2] 25))).below g1
  have rb := (Rec.new (w.alloc (.cells #[.bool a0, .slice a1 k0 a2] 25)) #[.bool b0, .slice b1 k1 b2] 25).below g1
  rw [size_alloc] at rb
  have bw := hid ((((below1 _ _).alloc (by simp) _) : Below w.heap.size w ((w.alloc (.cells #[.bool a0, .slice a1 k0 a2] 25)).alloc (.cells #[.bool b0, .slice b1 k1 b2] 25))).trans (g1.mono (B' := w.heap.size) (by simp; omega)))
  have HS0 : Hid (∀ w', Below u1.heap.size u1 w' → w'.cell? ⟨w.heap.size, 0, none⟩ = some (.bool a0) ∧ w'.cell? ⟨w.heap.size, 1, none⟩ = some (.slice a1 k0 a2) ∧ w'.cell? ⟨w.heap.size + 1, 0, none⟩ = some (.bool b0) ∧ w'.cell? ⟨w.heap.size + 1, 1, none⟩ = some (.slice b1 k1 b2)) := by
    intro w' hb
    exact ⟨(ra.below hb).cell 0, (ra.below hb).cell 1, (rb.below hb).cell 0, (rb.below hb).cell 1⟩
  obtain ⟨r, hr⟩ : ∃ r, r = decide (k0 ≤ 4 ∧ k1 ≤ 4) := ⟨_, rfl⟩
  have hfew := few_any u1.heap.size 1 1 (fun _ => k0) (fun _ => k1) r (u1.alloc (.cells #[.bool a0, .slice a1 k0 a2, .slice b1 k1 b2] 29))
    (fun i hi => by
      match i, hi with
      | 0, _ => exact ⟨a0, a1, a2, b1, b2, three _ 0, three _ 1, three _ 2⟩)
    (by decide) (by simp) (fun i hi => ⟨m0, m1⟩)
    (by
      rw [hr, decide_eq_true_iff]
      exact ⟨fun h i _ => h, fun h => h 0 (by decide)⟩)
  have Hfew := hid hfew
  have hcells := HS0.out _ (Below.refl _ _)
  clear hfew g1 ra rb m0 m1 Hf
  go_split_ands
  by_cases hall : k0 ≤ 4 ∧ k1 ≤ 4
  · have hrt : r = true := by rw [hr]; exact decide_eq_true hall
    rw [hrt] at Hfew
    clear hr hrt
    obtain ⟨hk0, hk1⟩ := hall
    go_wp2_with fail
    refine Hfew.out.mono ?_
    rintro e u2 ⟨rfl, d2'⟩
    have b12 : Below u1.heap.size u1 u2 := (below1 _ _).trans (d2'.mono (B' := u1.heap.size) (by simp))
    have bw2 := hid (bw.out.trans (b12.mono (B' := w.heap.size) bw.out.size))
    obtain ⟨p, hp, sp⟩ := (H0.out.below bw2.out).raw hk0
    obtain ⟨q, hq, sq⟩ := (H1.out.below bw2.out).raw hk1
    have HP := hid hp; have HQ := hid hq; have B12 := hid b12
    have hk := HS0.out _ b12
    have HS : Hid (∀ w', Below u2.heap.size u2 w' → w'.cell? ⟨w.heap.size, 0, none⟩ = some (.bool a0) ∧ w'.cell? ⟨w.heap.size, 1, none⟩ = some (.slice a1 k0 a2) ∧ w'.cell? ⟨w.heap.size + 1, 0, none⟩ = some (.bool b0) ∧ w'.cell? ⟨w.heap.size + 1, 1, none⟩ = some (.slice b1 k1 b2)) :=
      fun w' hb => HS0.out w' (Below.go hb B12.out)
    have HOf : Hid (∀ w', Below u2.heap.size u2 w' → Calls Try.prog 13 #[.agg #[.bool a0, .slice a1 k0 a2]] w' (RRat (Rat.divInt p 1) w')) := fun w' hb => QOf_any _ p w' (HP.out.below hb)
    have HOf2 : Hid (∀ w', Below u2.heap.size u2 w' → Calls Try.prog 14 #[.agg #[.bool a0, .slice a1 k0 a2]] w' (RRat (Rat.divInt p 1) w')) := fun w' hb => ROf2_any _ p w' (HP.out.below hb) (by omega)
    have Hsg : Hid (∀ w', Below u2.heap.size u2 w' → Calls Try.prog 15 #[.agg #[.bool b0, .slice b1 k1 b2]] w' (RNum .i64 q.sign w')) := fun w' hb => RSign_any _ q w' (HQ.out.below hb)
    clear d2' Hfew b12 hp hq hk0 hk1 H0 H1 bw HS0
    go_split_ands
    by_cases hq0 : q = 0
    · have Hnew : Hid (∀ w', Below u2.heap.size u2 w' → Calls Try.prog 11 #[.agg #[.bool a0, .slice a1 k0 a2], .agg #[.bool b0, .slice b1 k1 b2]] w' (RNone w')) := fun w' hb => QNew_none _ _ p w' (HP.out.below hb) (hq0 ▸ HQ.out.below hb)
      have Hsg0 : Hid (∀ w', Below u2.heap.size u2 w' → Calls Try.prog 15 #[.agg #[.bool b0, .slice b1 k1 b2]] w' (RNum .i64 0 w')) := fun w' hb => by
        have := Hsg.out w' hb
        rwa [hq0, Int.sign_zero] at this
      clear hq0 Hsg
      go_wp2_with fail
      refine (Hnew.out _ (Below.refl _ _)).mono ?_
      rintro e w3 ⟨rfl, b3⟩
      go_upto_region 6 with fail
      generalize hW : World.alloc w3 _ = W4
      have X4 : Below w3.heap.size w3 W4 ∧ Rec W4 w3.heap.size 29 #[.bool false, .slice none 0 0, .slice none 0 0] := by
        rw [← hW]; exact ⟨below1 _ _, Rec.new ..⟩
      have HB4 : Hid (Below u2.heap.size u2 W4) := b3.trans (X4.1.mono (B' := u2.heap.size) b3.size)
      have HR := hid X4.2
      obtain ⟨g5, hg5⟩ : ∃ g, g = w3.heap.size := ⟨_, rfl⟩
      rw [← hg5] at HR ⊢
      clear hW X4 hg5 b3 Hnew
      have HS4 : Hid (∀ w', Below W4.heap.size W4 w' → w'.cell? ⟨w.heap.size, 0, none⟩ = some (.bool a0) ∧ w'.cell? ⟨w.heap.size, 1, none⟩ = some (.slice a1 k0 a2) ∧ w'.cell? ⟨w.heap.size + 1, 0, none⟩ = some (.bool b0) ∧ w'.cell? ⟨w.heap.size + 1, 1, none⟩ = some (.slice b1 k1 b2) ∧
          w'.cell? ⟨g5, 2, none⟩ = some (.slice none 0 0) ∧ Below W4.heap.size W4 w') := by
        intro w' hb
        obtain ⟨q1, q2, q3, q4⟩ := HS.out w' (Below.go hb HB4.out)
        exact ⟨q1, q2, q3, q4, (HR.out.below hb).cell 2, hb⟩
      go_region_held3 (fun w' => w'.cell? ⟨w.heap.size, 0, none⟩ = some (.bool a0) ∧ w'.cell? ⟨w.heap.size, 1, none⟩ = some (.slice a1 k0 a2) ∧ w'.cell? ⟨w.heap.size + 1, 0, none⟩ = some (.bool b0) ∧ w'.cell? ⟨w.heap.size + 1, 1, none⟩ = some (.slice b1 k1 b2) ∧
          w'.cell? ⟨g5, 2, none⟩ = some (.slice none 0 0) ∧ Below W4.heap.size W4 w')
        (first | exact HS4.out _ (Below.drew (Below.refl _ _)) | (refine HS4.out _ (Below.go hb ?_); go_split_ands; assumption))
        (first
          | (go_at_call 13; refine (HOf.out _ (Below.go (by go_split_ands; assumption) HB4.out)).mono ?_; rintro e wa ⟨v5, rfl, i5, hb⟩)
          | (go_at_call 14; refine (HOf2.out _ (Below.go (by go_split_ands; assumption) HB4.out)).mono ?_; rintro e wb ⟨v6, rfl, i6, hb⟩; have i5 := i5.below hb)
          | (go_at_call 12; refine (QSame_told _ _ _ _ i5 i6).mono ?_; rintro e wc ⟨rfl, hb⟩))
      rename_i hHeld
      go_split_ands
      have HBc := hid (show Below W4.heap.size W4 wc by assumption)
      clear hb
      go_wp2_with fail
      refine (Hsg0.out _ (Below.go HBc.out HB4.out)).mono ?_
      rintro e wd ⟨rfl, hb⟩
      have HBd := hid (Below.go hb HBc.out)
      have hk := HS4.out _ HBd.out
      clear hb
      go_split_ands
      go_wp2_with fail
      go_ret
      exact ⟨rfl, bw2.out.trans ((Below.go HBd.out HB4.out).mono (B' := w.heap.size) bw2.out.size)⟩
    · have Hnew : Hid (∀ w', Below u2.heap.size u2 w' → Calls Try.prog 11 #[.agg #[.bool a0, .slice a1 k0 a2], .agg #[.bool b0, .slice b1 k1 b2]] w' (RSome (Rat.divInt p q) w')) := fun w' hb => QNew_some _ _ p q w' (HP.out.below hb) (HQ.out.below hb) hq0
      have Hmk : Hid (∀ w', Below u2.heap.size u2 w' → Calls Try.prog 16 #[.agg #[.bool a0, .slice a1 k0 a2], .agg #[.bool b0, .slice b1 k1 b2]] w' (RRat (Rat.divInt p q) w')) := fun w' hb => Make_any _ _ p q w' (HP.out.below hb) (HQ.out.below hb) hq0 (by omega) (by omega)
      have hs : (q.sign == 0) = false := beq_eq_false_iff_ne.2 (fun e => hq0 (Int.sign_eq_zero_iff_zero.1 e))
      clear hq0
      go_wp2_with fail
      refine (Hnew.out _ (Below.refl _ _)).mono ?_
      rintro e w3 ⟨v3, rfl, i3, b3⟩
      have i3p := i3.parts
      obtain ⟨f0, f1, f2, f3, f4, f5, f6, rfl, i3⟩ := i3p
      go_upto_region 6 with fail
      generalize hW : World.alloc w3 _ = W4
      have X4 : Below w3.heap.size w3 W4 ∧ Rec W4 w3.heap.size 29 #[.bool f0, .slice f1 f2 f3, .slice f4 f5 f6] := by
        rw [← hW]; exact ⟨below1 _ _, Rec.new ..⟩
      have HB4 : Hid (Below u2.heap.size u2 W4) := b3.trans (X4.1.mono (B' := u2.heap.size) b3.size)
      have HR := hid X4.2
      have HI := hid (i3.below X4.1)
      obtain ⟨g5, hg5⟩ : ∃ g, g = w3.heap.size := ⟨_, rfl⟩
      rw [← hg5] at HR ⊢
      clear hW X4 hg5 b3 Hnew i3
      have HS4 : Hid (∀ w', Below W4.heap.size W4 w' → w'.cell? ⟨w.heap.size, 0, none⟩ = some (.bool a0) ∧ w'.cell? ⟨w.heap.size, 1, none⟩ = some (.slice a1 k0 a2) ∧ w'.cell? ⟨w.heap.size + 1, 0, none⟩ = some (.bool b0) ∧ w'.cell? ⟨w.heap.size + 1, 1, none⟩ = some (.slice b1 k1 b2) ∧
          w'.cell? ⟨g5, 0, none⟩ = some (.bool f0) ∧ w'.cell? ⟨g5, 1, none⟩ = some (.slice f1 f2 f3) ∧ w'.cell? ⟨g5, 2, none⟩ = some (.slice f4 f5 f6) ∧ Below W4.heap.size W4 w') := by
        intro w' hb
        obtain ⟨q1, q2, q3, q4⟩ := HS.out w' (Below.go hb HB4.out)
        have a := cells3 (HR.out.below hb)
        exact ⟨q1, q2, q3, q4, a.1, a.2.1, a.2.2, hb⟩
      go_region_held3 (fun w' => w'.cell? ⟨w.heap.size, 0, none⟩ = some (.bool a0) ∧ w'.cell? ⟨w.heap.size, 1, none⟩ = some (.slice a1 k0 a2) ∧ w'.cell? ⟨w.heap.size + 1, 0, none⟩ = some (.bool b0) ∧ w'.cell? ⟨w.heap.size + 1, 1, none⟩ = some (.slice b1 k1 b2) ∧
          w'.cell? ⟨g5, 0, none⟩ = some (.bool f0) ∧ w'.cell? ⟨g5, 1, none⟩ = some (.slice f1 f2 f3) ∧ w'.cell? ⟨g5, 2, none⟩ = some (.slice f4 f5 f6) ∧ Below W4.heap.size W4 w')
        (first | exact HS4.out _ (Below.drew (Below.refl _ _)) | (refine HS4.out _ (Below.go hb ?_); go_split_ands; assumption))
        (first
          | (go_at_call 13; refine (HOf.out _ (Below.go (by go_split_ands; assumption) HB4.out)).mono ?_; rintro e wa ⟨v5, rfl, i5, hb⟩)
          | (go_at_call 14; refine (HOf2.out _ (Below.go (by go_split_ands; assumption) HB4.out)).mono ?_; rintro e wb ⟨v6, rfl, i6, hb⟩; have i5 := i5.below hb)
          | (go_at_call 12; refine (QSame_told _ _ _ _ i5 i6).mono ?_; rintro e wc ⟨rfl, hb⟩))
      rename_i hHeld
      go_split_ands
      have HBc := hid (show Below W4.heap.size W4 wc by assumption)
      clear hb
      go_wp2_with fail
      refine (Hsg.out _ (Below.go HBc.out HB4.out)).mono ?_
      rintro e wd ⟨rfl, hb⟩
      have HBd := hid (Below.go hb HBc.out)
      clear hb
      go_upto_region 10 with fail
      have HSd : Hid (∀ w', Below wd.heap.size wd w' → w'.cell? ⟨w.heap.size, 0, none⟩ = some (.bool a0) ∧ w'.cell? ⟨w.heap.size, 1, none⟩ = some (.slice a1 k0 a2) ∧ w'.cell? ⟨w.heap.size + 1, 0, none⟩ = some (.bool b0) ∧ w'.cell? ⟨w.heap.size + 1, 1, none⟩ = some (.slice b1 k1 b2) ∧
          w'.cell? ⟨g5, 0, none⟩ = some (.bool f0) ∧ w'.cell? ⟨g5, 1, none⟩ = some (.slice f1 f2 f3) ∧ w'.cell? ⟨g5, 2, none⟩ = some (.slice f4 f5 f6) ∧ Below wd.heap.size wd w') := by
        intro w' hb
        obtain ⟨q1, q2, q3, q4, q5, q6, q7, -⟩ := HS4.out w' (Below.go hb HBd.out)
        exact ⟨q1, q2, q3, q4, q5, q6, q7, hb⟩
      have HId := hid (HI.out.below HBd.out)
      have HBu := hid (Below.go HBd.out HB4.out)
      go_region_held3 (fun w' => w'.cell? ⟨w.heap.size, 0, none⟩ = some (.bool a0) ∧ w'.cell? ⟨w.heap.size, 1, none⟩ = some (.slice a1 k0 a2) ∧ w'.cell? ⟨w.heap.size + 1, 0, none⟩ = some (.bool b0) ∧ w'.cell? ⟨w.heap.size + 1, 1, none⟩ = some (.slice b1 k1 b2) ∧
          w'.cell? ⟨g5, 0, none⟩ = some (.bool f0) ∧ w'.cell? ⟨g5, 1, none⟩ = some (.slice f1 f2 f3) ∧ w'.cell? ⟨g5, 2, none⟩ = some (.slice f4 f5 f6) ∧ Below wd.heap.size wd w')
        (first | exact HSd.out _ (Below.drew (Below.refl _ _)) | (refine HSd.out _ (Below.go hb ?_); go_split_ands; assumption))
        (first
          | (go_at_call 16; refine (Hmk.out _ (Below.go (by go_split_ands; assumption) HBu.out)).mono ?_; rintro e we ⟨v8, rfl, i8, hb⟩)
          | (go_at_call 12; refine (QSame_told _ _ _ _ (HId.out.below (by go_split_ands; assumption)) i8).mono ?_; rintro e wf ⟨rfl, hb⟩))
      rename_i hHeld2
      go_split_ands
      have HBf := hid (show Below wd.heap.size wd wf by assumption)
      go_wp2_with fail
      go_ret
      exact ⟨rfl, bw2.out.trans ((Below.go HBf.out HBu.out).mono (B' := w.heap.size) bw2.out.size)⟩
  · have hrt : r = false := by rw [hr]; exact decide_eq_false hall
    rw [hrt] at Hfew
    clear hr hrt hall
    go_wp2_with fail
    refine Hfew.out.mono ?_
    rintro e u2 ⟨rfl, d2'⟩
    have bw2 := hid (bw.out.trans (((below1 _ _).trans (d2'.mono (B' := u1.heap.size) (by simp))).mono (B' := w.heap.size) bw.out.size))
    clear d2' Hfew
    go_wp2_with fail
    go_ret
    exact ⟨rfl, bw2.out⟩
end Go.Proofs.Yteiniokddopacaa
/- elenchuslaw02.RatioProducts answers true. -/
namespace Go.Proofs.Yteiniokddopacaa
open Go.RowKit Big

theorem sixc {w : World} {a b c d e f : Value} (t : TypeId) (j : Nat) : (w.alloc (.cells #[a, b, c, d, e, f] t)).cell? ⟨w.heap.size, j, none⟩ = #[a, b, c, d, e, f][j]? := cell_of_row _ _ j _ t (0, 0) (heap_alloc_new w _)

set_option maxRecDepth 100000 in
set_option maxHeartbeats 6400000 in
theorem lawRProducts_any (v0 v1 : Value) (k0 k1 d0 d1 : Nat) (w : World) (h0 : RatIn w v0 k0 d0) (h1 : RatIn w v1 k1 d1) :
    Calls Try.prog 5 #[v0, v1] w (RBool true w) := by
  have H0 := hid h0; have H1 := hid h1
  have m0 := h0.le; have m1 := h1.le
  obtain ⟨a0, a1, a2, a3, a4, -, -, rfl, -⟩ := h0
  obtain ⟨b0, b1, b2, b3, b4, -, -, rfl, -⟩ := h1
  have hf := fun o o' => fixed2_any ((w.alloc o).alloc o')
  have Hf := hid hf
  clear hf
  go_enter Try.func5, Try.ntmps5
  go_wp2_with fail
  refine (Hf.out _ _).mono ?_
  rintro e u1 ⟨rfl, g1⟩
  have ra := ((Rec.new w #[.bool a0, .slice a1 k0 a2, .slice a3 d0 a4] 29).below (below1 _ (.cells #[.bool b0, .slice b1 k1 b2, .slice b3 d1 b4] 29))).below g1
  have rb := (Rec.new (w.alloc (.cells #[.bool a0, .slice a1 k0 a2, .slice a3 d0 a4] 29)) #[.bool b0, .slice b1 k1 b2, .slice b3 d1 b4] 29).below g1
  rw [size_alloc] at rb
  have bw := hid ((((below1 _ _).alloc (by simp) _) : Below w.heap.size w ((w.alloc (.cells #[.bool a0, .slice a1 k0 a2, .slice a3 d0 a4] 29)).alloc (.cells #[.bool b0, .slice b1 k1 b2, .slice b3 d1 b4] 29))).trans (g1.mono (B' := w.heap.size) (by simp; omega)))
  have HS0 : Hid (∀ w', Below u1.heap.size u1 w' → w'.cell? ⟨w.heap.size, 0, none⟩ = some (.bool a0) ∧ w'.cell? ⟨w.heap.size, 1, none⟩ = some (.slice a1 k0 a2) ∧ w'.cell? ⟨w.heap.size, 2, none⟩ = some (.slice a3 d0 a4) ∧ w'.cell? ⟨w.heap.size + 1, 0, none⟩ = some (.bool b0) ∧ w'.cell? ⟨w.heap.size + 1, 1, none⟩ = some (.slice b1 k1 b2) ∧ w'.cell? ⟨w.heap.size + 1, 2, none⟩ = some (.slice b3 d1 b4)) := by
    intro w' hb
    have xa := cells3 (ra.below hb); have xb := cells3 (rb.below hb)
    exact ⟨xa.1, xa.2.1, xa.2.2, xb.1, xb.2.1, xb.2.2⟩
  obtain ⟨r, hr⟩ : ∃ r, r = decide ((k0 ≤ 4 ∧ d0 ≤ 4) ∧ (k1 ≤ 4 ∧ d1 ≤ 4)) := ⟨_, rfl⟩
  have hfew := few_any u1.heap.size 2 2 (fun | 0 => k0 | _ => k1) (fun | 0 => d0 | _ => d1) r (u1.alloc (.cells #[.bool a0, .slice a1 k0 a2, .slice a3 d0 a4, .bool b0, .slice b1 k1 b2, .slice b3 d1 b4] 29))
    (fun i hi => by
      match i, hi with
      | 0, _ => exact ⟨a0, a1, a2, a3, a4, sixc _ 0, sixc _ 1, sixc _ 2⟩
      | 1, _ => exact ⟨b0, b1, b2, b3, b4, sixc _ 3, sixc _ 4, sixc _ 5⟩)
    (by decide) (by simp) (fun i hi => by
      match i, hi with
      | 0, _ => exact m0
      | 1, _ => exact m1)
    (by
      rw [hr, decide_eq_true_iff]
      constructor
      · intro h i hi
        match i, hi with
        | 0, _ => exact h.1
        | 1, _ => exact h.2
      · intro h
        exact ⟨h 0 (by decide), h 1 (by decide)⟩)
  have Hfew := hid hfew
  have hcells := HS0.out _ (Below.refl _ _)
  clear hfew g1 ra rb m0 m1 Hf
  go_split_ands
  by_cases hall : (k0 ≤ 4 ∧ d0 ≤ 4) ∧ (k1 ≤ 4 ∧ d1 ≤ 4)
  · have hrt : r = true := by rw [hr]; exact decide_eq_true hall
    rw [hrt] at Hfew
    clear hr hrt
    obtain ⟨⟨hk0, hd0⟩, ⟨hk1, hd1⟩⟩ := hall
    go_wp2_with fail
    refine Hfew.out.mono ?_
    rintro e u2 ⟨rfl, d2'⟩
    have b12 : Below u1.heap.size u1 u2 := (below1 _ _).trans (d2'.mono (B' := u1.heap.size) (by simp))
    have bw2 := hid (bw.out.trans (b12.mono (B' := w.heap.size) bw.out.size))
    obtain ⟨x, hx⟩ := (H0.out.below bw2.out).q hk0 hd0
    obtain ⟨y, hy⟩ := (H1.out.below bw2.out).q hk1 hd1
    have HX := hid hx; have HY := hid hy; have B12 := hid b12
    have hk := HS0.out _ b12
    have HS : Hid (∀ w', Below u2.heap.size u2 w' → w'.cell? ⟨w.heap.size, 0, none⟩ = some (.bool a0) ∧ w'.cell? ⟨w.heap.size, 1, none⟩ = some (.slice a1 k0 a2) ∧ w'.cell? ⟨w.heap.size, 2, none⟩ = some (.slice a3 d0 a4) ∧ w'.cell? ⟨w.heap.size + 1, 0, none⟩ = some (.bool b0) ∧ w'.cell? ⟨w.heap.size + 1, 1, none⟩ = some (.slice b1 k1 b2) ∧ w'.cell? ⟨w.heap.size + 1, 2, none⟩ = some (.slice b3 d1 b4)) := fun w' hb => HS0.out w' (Below.go hb B12.out)
    have HMul : Hid (∀ w', Below u2.heap.size u2 w' → Calls Try.prog 26 #[.agg #[.bool a0, .slice a1 k0 a2, .slice a3 d0 a4], .agg #[.bool b0, .slice b1 k1 b2, .slice b3 d1 b4]] w' (RRat (x * y) w')) := fun w' hb => QMul_in ((HX.out.below hb).mono (by decide)) ((HY.out.below hb).mono (by decide))
    have HMul2 : Hid (∀ w', Below u2.heap.size u2 w' → Calls Try.prog 27 #[.agg #[.bool a0, .slice a1 k0 a2, .slice a3 d0 a4], .agg #[.bool b0, .slice b1 k1 b2, .slice b3 d1 b4]] w' (RRat (x * y) w')) := fun w' hb => RMul2_in ((HX.out.below hb).mono (by decide)) ((HY.out.below hb).mono (by decide))
    have Hsg : Hid (∀ w', Below u2.heap.size u2 w' → Calls Try.prog 24 #[.agg #[.bool b0, .slice b1 k1 b2, .slice b3 d1 b4]] w' (RNum .i64 (cq y 0) w')) := fun w' hb => RSign2_in (HY.out.below hb)
    clear d2' Hfew b12 hx hy hk0 hk1 hd0 hd1 H0 H1 bw HS0
    go_split_ands
    by_cases hy0 : y = 0
    · have Hnew : Hid (∀ w', Below u2.heap.size u2 w' → Calls Try.prog 25 #[.agg #[.bool a0, .slice a1 k0 a2, .slice a3 d0 a4], .agg #[.bool b0, .slice b1 k1 b2, .slice b3 d1 b4]] w' (RNone w')) := fun w' hb => QDiv_in0 ((HX.out.below hb).mono (by decide)) ((hy0 ▸ HY.out.below hb).mono (by decide))
      have Hsg0 : Hid (∀ w', Below u2.heap.size u2 w' → Calls Try.prog 24 #[.agg #[.bool b0, .slice b1 k1 b2, .slice b3 d1 b4]] w' (RNum .i64 0 w')) := fun w' hb => by
        have := Hsg.out w' hb
        rwa [hy0, cq_self] at this
      clear hy0 Hsg
      go_wp2_with fail
      refine (Hnew.out _ (Below.refl _ _)).mono ?_
      rintro e w3 ⟨rfl, b3⟩
      go_upto_region 6 with fail
      generalize hW : World.alloc w3 _ = W4
      have X4 : Below w3.heap.size w3 W4 ∧ Rec W4 w3.heap.size 29 #[.bool false, .slice none 0 0, .slice none 0 0] := by
        rw [← hW]; exact ⟨below1 _ _, Rec.new ..⟩
      have HB4 : Hid (Below u2.heap.size u2 W4) := b3.trans (X4.1.mono (B' := u2.heap.size) b3.size)
      have HR := hid X4.2
      obtain ⟨g5, hg5⟩ : ∃ g, g = w3.heap.size := ⟨_, rfl⟩
      rw [← hg5] at HR ⊢
      clear hW X4 hg5 b3 Hnew
      have HS4 : Hid (∀ w', Below W4.heap.size W4 w' → w'.cell? ⟨w.heap.size, 0, none⟩ = some (.bool a0) ∧ w'.cell? ⟨w.heap.size, 1, none⟩ = some (.slice a1 k0 a2) ∧ w'.cell? ⟨w.heap.size, 2, none⟩ = some (.slice a3 d0 a4) ∧ w'.cell? ⟨w.heap.size + 1, 0, none⟩ = some (.bool b0) ∧ w'.cell? ⟨w.heap.size + 1, 1, none⟩ = some (.slice b1 k1 b2) ∧ w'.cell? ⟨w.heap.size + 1, 2, none⟩ = some (.slice b3 d1 b4) ∧ w'.cell? ⟨g5, 2, none⟩ = some (.slice none 0 0) ∧ Below W4.heap.size W4 w') := by
        intro w' hb
        obtain ⟨q1, q2, q3, q4, q5, q6⟩ := HS.out w' (Below.go hb HB4.out)
        exact ⟨q1, q2, q3, q4, q5, q6, (HR.out.below hb).cell 2, hb⟩
      go_region_held3 (fun w' => w'.cell? ⟨w.heap.size, 0, none⟩ = some (.bool a0) ∧ w'.cell? ⟨w.heap.size, 1, none⟩ = some (.slice a1 k0 a2) ∧ w'.cell? ⟨w.heap.size, 2, none⟩ = some (.slice a3 d0 a4) ∧ w'.cell? ⟨w.heap.size + 1, 0, none⟩ = some (.bool b0) ∧ w'.cell? ⟨w.heap.size + 1, 1, none⟩ = some (.slice b1 k1 b2) ∧ w'.cell? ⟨w.heap.size + 1, 2, none⟩ = some (.slice b3 d1 b4) ∧ w'.cell? ⟨g5, 2, none⟩ = some (.slice none 0 0) ∧ Below W4.heap.size W4 w')
        (first | exact HS4.out _ (Below.drew (Below.refl _ _)) | (refine HS4.out _ (Below.go hb ?_); go_split_ands; assumption))
        (first
          | (go_at_call 26; refine (HMul.out _ (Below.go (by go_split_ands; assumption) HB4.out)).mono ?_; rintro e wa ⟨v5, rfl, i5, hb⟩)
          | (go_at_call 27; refine (HMul2.out _ (Below.go (by go_split_ands; assumption) HB4.out)).mono ?_; rintro e wb ⟨v6, rfl, i6, hb⟩; have i5 := i5.below hb)
          | (go_at_call 12; refine (QSame_told _ _ _ _ i5 i6).mono ?_; rintro e wc ⟨rfl, hb⟩))
      rename_i hHeld
      go_split_ands
      have HBc := hid (show Below W4.heap.size W4 wc by assumption)
      clear hb
      go_wp2_with fail
      refine (Hsg0.out _ (Below.go HBc.out HB4.out)).mono ?_
      rintro e wd ⟨rfl, hb⟩
      have HBd := hid (Below.go hb HBc.out)
      have hk := HS4.out _ HBd.out
      clear hb
      go_split_ands
      go_wp2_with fail
      go_ret
      exact ⟨rfl, bw2.out.trans ((Below.go HBd.out HB4.out).mono (B' := w.heap.size) bw2.out.size)⟩
    · have Hnew : Hid (∀ w', Below u2.heap.size u2 w' → Calls Try.prog 25 #[.agg #[.bool a0, .slice a1 k0 a2, .slice a3 d0 a4], .agg #[.bool b0, .slice b1 k1 b2, .slice b3 d1 b4]] w' (RSome (x / y) w')) := fun w' hb => QDiv_in ((HX.out.below hb).mono (by decide)) ((HY.out.below hb).mono (by decide)) hy0
      have Hmk : Hid (∀ w', Below u2.heap.size u2 w' → Calls Try.prog 28 #[.agg #[.bool a0, .slice a1 k0 a2, .slice a3 d0 a4], .agg #[.bool b0, .slice b1 k1 b2, .slice b3 d1 b4]] w' (RRat (x / y) w')) := fun w' hb => RDiv2_in ((HX.out.below hb).mono (by decide)) ((HY.out.below hb).mono (by decide)) hy0
      have hs : (cq y 0 == 0) = false := beq_eq_false_iff_ne.2 (fun e => hy0 (cq_zero e))
      clear hy0
      generalize cq y 0 = sy at *
      go_wp2_with fail
      refine (Hnew.out _ (Below.refl _ _)).mono ?_
      rintro e w3 ⟨v3, rfl, i3, b3⟩
      have i3p := i3.parts
      obtain ⟨f0, f1, f2, f3, f4, f5, f6, rfl, i3⟩ := i3p
      go_upto_region 6 with fail
      generalize hW : World.alloc w3 _ = W4
      have X4 : Below w3.heap.size w3 W4 ∧ Rec W4 w3.heap.size 29 #[.bool f0, .slice f1 f2 f3, .slice f4 f5 f6] := by
        rw [← hW]; exact ⟨below1 _ _, Rec.new ..⟩
      have HB4 : Hid (Below u2.heap.size u2 W4) := b3.trans (X4.1.mono (B' := u2.heap.size) b3.size)
      have HR := hid X4.2
      have HI := hid (i3.below X4.1)
      obtain ⟨g5, hg5⟩ : ∃ g, g = w3.heap.size := ⟨_, rfl⟩
      rw [← hg5] at HR ⊢
      clear hW X4 hg5 b3 Hnew i3
      have HS4 : Hid (∀ w', Below W4.heap.size W4 w' → w'.cell? ⟨w.heap.size, 0, none⟩ = some (.bool a0) ∧ w'.cell? ⟨w.heap.size, 1, none⟩ = some (.slice a1 k0 a2) ∧ w'.cell? ⟨w.heap.size, 2, none⟩ = some (.slice a3 d0 a4) ∧ w'.cell? ⟨w.heap.size + 1, 0, none⟩ = some (.bool b0) ∧ w'.cell? ⟨w.heap.size + 1, 1, none⟩ = some (.slice b1 k1 b2) ∧ w'.cell? ⟨w.heap.size + 1, 2, none⟩ = some (.slice b3 d1 b4) ∧ w'.cell? ⟨g5, 0, none⟩ = some (.bool f0) ∧ w'.cell? ⟨g5, 1, none⟩ = some (.slice f1 f2 f3) ∧ w'.cell? ⟨g5, 2, none⟩ = some (.slice f4 f5 f6) ∧ Below W4.heap.size W4 w') := by
        intro w' hb
        obtain ⟨q1, q2, q3, q4, q5, q6⟩ := HS.out w' (Below.go hb HB4.out)
        have a := cells3 (HR.out.below hb)
        exact ⟨q1, q2, q3, q4, q5, q6, a.1, a.2.1, a.2.2, hb⟩
      go_region_held3 (fun w' => w'.cell? ⟨w.heap.size, 0, none⟩ = some (.bool a0) ∧ w'.cell? ⟨w.heap.size, 1, none⟩ = some (.slice a1 k0 a2) ∧ w'.cell? ⟨w.heap.size, 2, none⟩ = some (.slice a3 d0 a4) ∧ w'.cell? ⟨w.heap.size + 1, 0, none⟩ = some (.bool b0) ∧ w'.cell? ⟨w.heap.size + 1, 1, none⟩ = some (.slice b1 k1 b2) ∧ w'.cell? ⟨w.heap.size + 1, 2, none⟩ = some (.slice b3 d1 b4) ∧ w'.cell? ⟨g5, 0, none⟩ = some (.bool f0) ∧ w'.cell? ⟨g5, 1, none⟩ = some (.slice f1 f2 f3) ∧ w'.cell? ⟨g5, 2, none⟩ = some (.slice f4 f5 f6) ∧ Below W4.heap.size W4 w')
        (first | exact HS4.out _ (Below.drew (Below.refl _ _)) | (refine HS4.out _ (Below.go hb ?_); go_split_ands; assumption))
        (first
          | (go_at_call 26; refine (HMul.out _ (Below.go (by go_split_ands; assumption) HB4.out)).mono ?_; rintro e wa ⟨v5, rfl, i5, hb⟩)
          | (go_at_call 27; refine (HMul2.out _ (Below.go (by go_split_ands; assumption) HB4.out)).mono ?_; rintro e wb ⟨v6, rfl, i6, hb⟩; have i5 := i5.below hb)
          | (go_at_call 12; refine (QSame_told _ _ _ _ i5 i6).mono ?_; rintro e wc ⟨rfl, hb⟩))
      rename_i hHeld
      go_split_ands
      have HBc := hid (show Below W4.heap.size W4 wc by assumption)
      clear hb
      go_wp2_with fail
      refine (Hsg.out _ (Below.go HBc.out HB4.out)).mono ?_
      rintro e wd ⟨rfl, hb⟩
      have HBd := hid (Below.go hb HBc.out)
      clear hb
      go_upto_region 10 with fail
      have HSd : Hid (∀ w', Below wd.heap.size wd w' → w'.cell? ⟨w.heap.size, 0, none⟩ = some (.bool a0) ∧ w'.cell? ⟨w.heap.size, 1, none⟩ = some (.slice a1 k0 a2) ∧ w'.cell? ⟨w.heap.size, 2, none⟩ = some (.slice a3 d0 a4) ∧ w'.cell? ⟨w.heap.size + 1, 0, none⟩ = some (.bool b0) ∧ w'.cell? ⟨w.heap.size + 1, 1, none⟩ = some (.slice b1 k1 b2) ∧ w'.cell? ⟨w.heap.size + 1, 2, none⟩ = some (.slice b3 d1 b4) ∧ w'.cell? ⟨g5, 0, none⟩ = some (.bool f0) ∧ w'.cell? ⟨g5, 1, none⟩ = some (.slice f1 f2 f3) ∧ w'.cell? ⟨g5, 2, none⟩ = some (.slice f4 f5 f6) ∧ Below wd.heap.size wd w') := by
        intro w' hb
        obtain ⟨q1, q2, q3, q4, q5, q6, q7, q8, q9, -⟩ := HS4.out w' (Below.go hb HBd.out)
        exact ⟨q1, q2, q3, q4, q5, q6, q7, q8, q9, hb⟩
      have HId := hid (HI.out.below HBd.out)
      have HBu := hid (Below.go HBd.out HB4.out)
      go_region_held3 (fun w' => w'.cell? ⟨w.heap.size, 0, none⟩ = some (.bool a0) ∧ w'.cell? ⟨w.heap.size, 1, none⟩ = some (.slice a1 k0 a2) ∧ w'.cell? ⟨w.heap.size, 2, none⟩ = some (.slice a3 d0 a4) ∧ w'.cell? ⟨w.heap.size + 1, 0, none⟩ = some (.bool b0) ∧ w'.cell? ⟨w.heap.size + 1, 1, none⟩ = some (.slice b1 k1 b2) ∧ w'.cell? ⟨w.heap.size + 1, 2, none⟩ = some (.slice b3 d1 b4) ∧ w'.cell? ⟨g5, 0, none⟩ = some (.bool f0) ∧ w'.cell? ⟨g5, 1, none⟩ = some (.slice f1 f2 f3) ∧ w'.cell? ⟨g5, 2, none⟩ = some (.slice f4 f5 f6) ∧ Below wd.heap.size wd w')
        (first | exact HSd.out _ (Below.drew (Below.refl _ _)) | (refine HSd.out _ (Below.go hb ?_); go_split_ands; assumption))
        (first
          | (go_at_call 28; refine (Hmk.out _ (Below.go (by go_split_ands; assumption) HBu.out)).mono ?_; rintro e we ⟨v8, rfl, i8, hb⟩)
          | (go_at_call 12; refine (QSame_told _ _ _ _ (HId.out.below (by go_split_ands; assumption)) i8).mono ?_; rintro e wf ⟨rfl, hb⟩))
      rename_i hHeld2
      go_split_ands
      have HBf := hid (show Below wd.heap.size wd wf by assumption)
      go_wp2_with fail
      go_ret
      exact ⟨rfl, bw2.out.trans ((Below.go HBf.out HBu.out).mono (B' := w.heap.size) bw2.out.size)⟩
  · have hrt : r = false := by rw [hr]; exact decide_eq_false hall
    rw [hrt] at Hfew
    clear hr hrt hall
    go_wp2_with fail
    refine Hfew.out.mono ?_
    rintro e u2 ⟨rfl, d2'⟩
    have bw2 := hid (bw.out.trans (((below1 _ _).trans (d2'.mono (B' := u1.heap.size) (by simp))).mono (B' := w.heap.size) bw.out.size))
    clear d2' Hfew
    go_wp2_with fail
    go_ret
    exact ⟨rfl, bw2.out⟩
end Go.Proofs.Yteiniokddopacaa
/- elenchuslaw02.RatioSums answers true. -/
namespace Go.Proofs.Yteiniokddopacaa
open Go.RowKit Big

set_option maxRecDepth 100000 in
set_option maxHeartbeats 6400000 in
theorem lawRSums_any (v0 v1 : Value) (k0 k1 d0 d1 : Nat) (w : World) (h0 : RatIn w v0 k0 d0) (h1 : RatIn w v1 k1 d1) :
    Calls Try.prog 4 #[v0, v1] w (RBool true w) := by
  have H0 := hid h0; have H1 := hid h1
  have m0 := h0.le; have m1 := h1.le
  obtain ⟨a0, a1, a2, a3, a4, -, -, rfl, -⟩ := h0
  obtain ⟨b0, b1, b2, b3, b4, -, -, rfl, -⟩ := h1
  have hf := fun o o' => fixed2_any ((w.alloc o).alloc o')
  have Hf := hid hf
  clear hf
  go_enter Try.func4, Try.ntmps4
  go_wp2_with fail
  refine (Hf.out _ _).mono ?_
  rintro e u1 ⟨rfl, g1⟩
  have ra := ((Rec.new w #[.bool a0, .slice a1 k0 a2, .slice a3 d0 a4] 29).below (below1 _ (.cells #[.bool b0, .slice b1 k1 b2, .slice b3 d1 b4] 29))).below g1
  have rb := (Rec.new (w.alloc (.cells #[.bool a0, .slice a1 k0 a2, .slice a3 d0 a4] 29)) #[.bool b0, .slice b1 k1 b2, .slice b3 d1 b4] 29).below g1
  rw [size_alloc] at rb
  have bw := hid ((((below1 _ _).alloc (by simp) _) : Below w.heap.size w ((w.alloc (.cells #[.bool a0, .slice a1 k0 a2, .slice a3 d0 a4] 29)).alloc (.cells #[.bool b0, .slice b1 k1 b2, .slice b3 d1 b4] 29))).trans (g1.mono (B' := w.heap.size) (by simp; omega)))
  have HS0 : Hid (∀ w', Below u1.heap.size u1 w' → w'.cell? ⟨w.heap.size, 0, none⟩ = some (.bool a0) ∧ w'.cell? ⟨w.heap.size, 1, none⟩ = some (.slice a1 k0 a2) ∧ w'.cell? ⟨w.heap.size, 2, none⟩ = some (.slice a3 d0 a4) ∧ w'.cell? ⟨w.heap.size + 1, 0, none⟩ = some (.bool b0) ∧ w'.cell? ⟨w.heap.size + 1, 1, none⟩ = some (.slice b1 k1 b2) ∧ w'.cell? ⟨w.heap.size + 1, 2, none⟩ = some (.slice b3 d1 b4)) := by
    intro w' hb
    have xa := cells3 (ra.below hb); have xb := cells3 (rb.below hb)
    exact ⟨xa.1, xa.2.1, xa.2.2, xb.1, xb.2.1, xb.2.2⟩
  obtain ⟨r, hr⟩ : ∃ r, r = decide ((k0 ≤ 4 ∧ d0 ≤ 4) ∧ (k1 ≤ 4 ∧ d1 ≤ 4)) := ⟨_, rfl⟩
  have hfew := few_any u1.heap.size 2 2 (fun | 0 => k0 | _ => k1) (fun | 0 => d0 | _ => d1) r (u1.alloc (.cells #[.bool a0, .slice a1 k0 a2, .slice a3 d0 a4, .bool b0, .slice b1 k1 b2, .slice b3 d1 b4] 29))
    (fun i hi => by
      match i, hi with
      | 0, _ => exact ⟨a0, a1, a2, a3, a4, sixc _ 0, sixc _ 1, sixc _ 2⟩
      | 1, _ => exact ⟨b0, b1, b2, b3, b4, sixc _ 3, sixc _ 4, sixc _ 5⟩)
    (by decide) (by simp) (fun i hi => by
      match i, hi with
      | 0, _ => exact m0
      | 1, _ => exact m1)
    (by
      rw [hr, decide_eq_true_iff]
      constructor
      · intro h i hi
        match i, hi with
        | 0, _ => exact h.1
        | 1, _ => exact h.2
      · intro h
        exact ⟨h 0 (by decide), h 1 (by decide)⟩)
  have Hfew := hid hfew
  have hcells := HS0.out _ (Below.refl _ _)
  clear hfew g1 ra rb m0 m1 Hf
  go_split_ands
  by_cases hall : (k0 ≤ 4 ∧ d0 ≤ 4) ∧ (k1 ≤ 4 ∧ d1 ≤ 4)
  · have hrt : r = true := by rw [hr]; exact decide_eq_true hall
    rw [hrt] at Hfew
    clear hr hrt
    obtain ⟨⟨hk0, hd0⟩, ⟨hk1, hd1⟩⟩ := hall
    go_wp2_with fail
    refine Hfew.out.mono ?_
    rintro e u2 ⟨rfl, d2'⟩
    have b12 : Below u1.heap.size u1 u2 := (below1 _ _).trans (d2'.mono (B' := u1.heap.size) (by simp))
    have bw2 := hid (bw.out.trans (b12.mono (B' := w.heap.size) bw.out.size))
    obtain ⟨x, hx⟩ := (H0.out.below bw2.out).q hk0 hd0
    obtain ⟨y, hy⟩ := (H1.out.below bw2.out).q hk1 hd1
    have HX := hid hx; have HY := hid hy; have B12 := hid b12
    have hk := HS0.out _ b12
    have HS : Hid (∀ w', Below u2.heap.size u2 w' → w'.cell? ⟨w.heap.size, 0, none⟩ = some (.bool a0) ∧ w'.cell? ⟨w.heap.size, 1, none⟩ = some (.slice a1 k0 a2) ∧ w'.cell? ⟨w.heap.size, 2, none⟩ = some (.slice a3 d0 a4) ∧ w'.cell? ⟨w.heap.size + 1, 0, none⟩ = some (.bool b0) ∧ w'.cell? ⟨w.heap.size + 1, 1, none⟩ = some (.slice b1 k1 b2) ∧ w'.cell? ⟨w.heap.size + 1, 2, none⟩ = some (.slice b3 d1 b4)) := fun w' hb => HS0.out w' (Below.go hb B12.out)
    have HA1 : Hid (∀ w', Below u2.heap.size u2 w' → Calls Try.prog 17 #[.agg #[.bool a0, .slice a1 k0 a2, .slice a3 d0 a4], .agg #[.bool b0, .slice b1 k1 b2, .slice b3 d1 b4]] w' (RRat (x + y) w')) := fun w' hb => QAdd_in ((HX.out.below hb).mono (by decide)) ((HY.out.below hb).mono (by decide))
    have HA2 : Hid (∀ w', Below u2.heap.size u2 w' → Calls Try.prog 18 #[.agg #[.bool a0, .slice a1 k0 a2, .slice a3 d0 a4], .agg #[.bool b0, .slice b1 k1 b2, .slice b3 d1 b4]] w' (RRat (x + y) w')) := fun w' hb => RAdd2_in ((HX.out.below hb).mono (by decide)) ((HY.out.below hb).mono (by decide))
    have HB1 : Hid (∀ w', Below u2.heap.size u2 w' → Calls Try.prog 19 #[.agg #[.bool a0, .slice a1 k0 a2, .slice a3 d0 a4], .agg #[.bool b0, .slice b1 k1 b2, .slice b3 d1 b4]] w' (RRat (x - y) w')) := fun w' hb => QSub_in ((HX.out.below hb).mono (by decide)) ((HY.out.below hb).mono (by decide))
    have HB2 : Hid (∀ w', Below u2.heap.size u2 w' → Calls Try.prog 20 #[.agg #[.bool a0, .slice a1 k0 a2, .slice a3 d0 a4], .agg #[.bool b0, .slice b1 k1 b2, .slice b3 d1 b4]] w' (RRat (x - y) w')) := fun w' hb => RSub2_in ((HX.out.below hb).mono (by decide)) ((HY.out.below hb).mono (by decide))
    have HC1 : Hid (∀ w', Below u2.heap.size u2 w' → Calls Try.prog 21 #[.agg #[.bool a0, .slice a1 k0 a2, .slice a3 d0 a4], .agg #[.bool b0, .slice b1 k1 b2, .slice b3 d1 b4]] w' (RNum .i64 (cq x y) w')) := fun w' hb => QCmp_in ((HX.out.below hb).mono (by decide)) ((HY.out.below hb).mono (by decide))
    have HC2 : Hid (∀ w', Below u2.heap.size u2 w' → Calls Try.prog 22 #[.agg #[.bool a0, .slice a1 k0 a2, .slice a3 d0 a4], .agg #[.bool b0, .slice b1 k1 b2, .slice b3 d1 b4]] w' (RNum .i64 (cq x y) w')) := fun w' hb => RCmp2_in ((HX.out.below hb).mono (by decide)) ((HY.out.below hb).mono (by decide))
    have HG1 : Hid (∀ w', Below u2.heap.size u2 w' → Calls Try.prog 23 #[.agg #[.bool a0, .slice a1 k0 a2, .slice a3 d0 a4]] w' (RNum .i64 (cq x 0) w')) := fun w' hb => QSign_in (HX.out.below hb)
    have HG2 : Hid (∀ w', Below u2.heap.size u2 w' → Calls Try.prog 24 #[.agg #[.bool a0, .slice a1 k0 a2, .slice a3 d0 a4]] w' (RNum .i64 (cq x 0) w')) := fun w' hb => RSign2_in (HX.out.below hb)
    have HSw : Hid (∀ w', Below u2.heap.size u2 w' → w'.cell? ⟨w.heap.size, 0, none⟩ = some (.bool a0) ∧ w'.cell? ⟨w.heap.size, 1, none⟩ = some (.slice a1 k0 a2) ∧ w'.cell? ⟨w.heap.size, 2, none⟩ = some (.slice a3 d0 a4) ∧ w'.cell? ⟨w.heap.size + 1, 0, none⟩ = some (.bool b0) ∧ w'.cell? ⟨w.heap.size + 1, 1, none⟩ = some (.slice b1 k1 b2) ∧ w'.cell? ⟨w.heap.size + 1, 2, none⟩ = some (.slice b3 d1 b4) ∧ Below u2.heap.size u2 w') := by
      intro w' hb
      obtain ⟨q1, q2, q3, q4, q5, q6⟩ := HS.out w' hb
      exact ⟨q1, q2, q3, q4, q5, q6, hb⟩
    clear d2' Hfew b12 hx hy hk0 hk1 hd0 hd1 H0 H1 bw HS0 HX HY HS B12
    go_split_ands
    generalize cq x y = cxy at *
    generalize cq x 0 = cx0 at *
    go_upto_region 5 with fail
    go_region_held3 (fun w' => w'.cell? ⟨w.heap.size, 0, none⟩ = some (.bool a0) ∧ w'.cell? ⟨w.heap.size, 1, none⟩ = some (.slice a1 k0 a2) ∧ w'.cell? ⟨w.heap.size, 2, none⟩ = some (.slice a3 d0 a4) ∧ w'.cell? ⟨w.heap.size + 1, 0, none⟩ = some (.bool b0) ∧ w'.cell? ⟨w.heap.size + 1, 1, none⟩ = some (.slice b1 k1 b2) ∧ w'.cell? ⟨w.heap.size + 1, 2, none⟩ = some (.slice b3 d1 b4) ∧ Below u2.heap.size u2 w')
      (first | exact HSw.out _ (Below.drew (Below.refl _ _)) | (refine HSw.out _ (Below.go hb ?_); go_split_ands; assumption))
      (first
        | (go_at_call 17; refine (HA1.out _ (by go_split_ands; assumption)).mono ?_; rintro e wa ⟨v1, rfl, i1, hb⟩)
        | (go_at_call 18; refine (HA2.out _ (by go_split_ands; assumption)).mono ?_; rintro e wb ⟨v2, rfl, i2, hb⟩; have i1 := i1.below hb)
        | (go_at_call 19; refine (HB1.out _ (by go_split_ands; assumption)).mono ?_; rintro e wd ⟨v3, rfl, i3, hb⟩)
        | (go_at_call 20; refine (HB2.out _ (by go_split_ands; assumption)).mono ?_; rintro e we ⟨v4, rfl, i4, hb⟩; have i3 := i3.below hb)
        | (go_at_call 12; refine (QSame_told _ _ _ _ i3 i4).mono ?_; rintro e wf ⟨rfl, hb⟩)
        | (go_at_call 12; refine (QSame_told _ _ _ _ i1 i2).mono ?_; rintro e wc ⟨rfl, hb⟩)
        | (go_at_call 21; refine (HC1.out _ (by go_split_ands; assumption)).mono ?_; rintro e wg ⟨rfl, hb⟩)
        | (go_at_call 22; refine (HC2.out _ (by go_split_ands; assumption)).mono ?_; rintro e wh ⟨rfl, hb⟩)
        | (go_at_call 23; refine (HG1.out _ (by go_split_ands; assumption)).mono ?_; rintro e wi ⟨rfl, hb⟩)
        | (go_at_call 24; refine (HG2.out _ (by go_split_ands; assumption)).mono ?_; rintro e wj ⟨rfl, hb⟩))
    rename_i hHeld
    go_split_ands
    have HBf := hid (show Below u2.heap.size u2 wj by assumption)
    go_wp2_with fail
    go_ret
    exact ⟨rfl, bw2.out.trans (HBf.out.mono (B' := w.heap.size) bw2.out.size)⟩
  · have hrt : r = false := by rw [hr]; exact decide_eq_false hall
    rw [hrt] at Hfew
    clear hr hrt hall
    go_wp2_with fail
    refine Hfew.out.mono ?_
    rintro e u2 ⟨rfl, d2'⟩
    have bw2 := hid (bw.out.trans (((below1 _ _).trans (d2'.mono (B' := u1.heap.size) (by simp))).mono (B' := w.heap.size) bw.out.size))
    clear d2' Hfew
    go_wp2_with fail
    go_ret
    exact ⟨rfl, bw2.out⟩
end Go.Proofs.Yteiniokddopacaa
