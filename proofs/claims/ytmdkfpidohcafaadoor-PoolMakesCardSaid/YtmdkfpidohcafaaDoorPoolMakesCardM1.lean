/- Texts put together: PlMakeW, PlMakes. -/
import Derived.Test.YtmdkfpidohcafaaDoorPoolAgainCardM1
/- (*pool.Pool).Make: XPlMake's proof, told more of: the blocks of words stay. -/
namespace Go.Proofs.YtmdkfpidohcafaaDoor
open Go.RowKit Big Go.WideMaps

/-- the blocks of words stay -/
def WordsStay (w w' : World) : Prop := ∀ (k : Nat) (c : Array Value), w.heap[k]? = some (.cells c 98 (0, 0)) → w'.heap[k]? = w.heap[k]?
theorem WordsStay.trans {a b c : World} (h : WordsStay a b) (k : WordsStay b c) : WordsStay a c := fun i x hx => (k i x ((h i x hx).trans hx)).trans (h i x hx)
theorem WordsStay.of_below {w w' : World} (h : Below w.heap.size w w') : WordsStay w w' := fun _ _ hx => h.block _ (lt_of_block hx)
theorem WordsStay.step {T : Nat → Prop} {w w' : World} {g : Nat} {d : Array Value} (i : Nat) (u : Value) (hb : Apart T w w') (hT : ∀ k, T k → ∀ c, w.heap[k]? ≠ some (.cells c 98 (0, 0))) (hg : w.heap[g]? = some (.cells d 67 (0, 0))) : WordsStay w (w'.setCell ⟨g, i, none⟩ u) := fun k c hk => by
  have hne : k ≠ g := tag_ne hk hg (by decide)
  exact (Below.heap_setCell _ _ _ _ hne).trans (hb.block k (lt_of_block hk) (fun h => hT k h c hk))
theorem words_row {w : World} {b : Nat} {e : TypeId} {s : Nat} {v : Value} {n : Nat} {xs : List Value} (h : w.ownsRow b e s v n xs) (he : e ≠ 98) : ∀ k, v.ownBlock = some k → ∀ c, w.heap[k]? ≠ some (.cells c 98 (0, 0)) := fun k hk c hc => by
  obtain ⟨c', h'⟩ := row_tag h k hk
  rw [h'] at hc
  injection hc with hc
  injection hc with _ h2
  exact he h2
theorem words_map {w : World} {S : Nat → Prop} {m : Option Nat} {l : List (List UInt8)} (h : MpIn w S m l) : ∀ k, m = some k → ∀ c, w.heap[k]? ≠ some (.cells c 98 (0, 0)) := fun k hk c hc => by
  obtain ⟨es, cl, h'⟩ := h.tag k hk
  rw [h'] at hc
  cases hc
set_option maxRecDepth 100000 in
set_option maxHeartbeats 12800000 in
theorem Make_words (B : Nat) (S : Nat → Prop) (g : Nat) (p : Po) (t : Tm) (v : Value) (w : World) (h : PoAt w S g p) (hB : B ≤ w.heap.size) (htab : Tb B w) (ht : TmRaw w v t) (hla : t.args.length ≤ 1099511627776) :
    Calls Tryd.prog 13 #[.pointer (some ⟨g, 0, none⟩), v] w (fun e w' => RMk S g (plMake p t) w e w' ∧ WordsStay w w') := by
  have Hpt := hid ht
  have Hpo := hid h
  have Htab := hid htab
  have hszt : sz W t.num.natAbs ≤ 1099511627776 := by obtain ⟨pa, ca, b, pm, nm, cm, -, -, hr⟩ := ht; exact hr.sz
  obtain ⟨pa, ca, b, pm, nm, cm, rfl, -, -⟩ := ht
  have bx := heap_alloc_new w (.cells #[.int .i64 t.op, .slice pa t.args.length ca, .bool b, .slice pm nm cm, .int .i64 t.sym] 39)
  have b0 := below1 w (.cells #[.int .i64 t.op, .slice pa t.args.length ca, .bool b, .slice pm nm cm, .int .i64 t.sym] 39)
  have q0 := cell_new5 w (.int .i64 t.op) (.slice pa t.args.length ca) (.bool b) (.slice pm nm cm) (.int .i64 t.sym) 39
  have hs0 := size_alloc w (.cells #[.int .i64 t.op, .slice pa t.args.length ca, .bool b, .slice pm nm cm, .int .i64 t.sym] 39)
  obtain ⟨r, hr⟩ : ∃ r, r = plMake p t := ⟨_, rfl⟩
  rw [← hr]
  have Hr := hid hr
  have hw := fun w' hb => wrong_any g p t _ w' (Hpo.out.rd.below (w' := w') hb) (Hpt.out.below hb)
  generalize her : plWrong p t = er at hw
  have Her := hid her
  have Hw := hid hw
  clear h hr hw her htab
  go_enter Tryd.func13, Tryd.ntmps13
  go_wp2_with fail
  generalize hW : (w.alloc (.cells #[.int .i64 t.op, .slice pa t.args.length ca, .bool b, .slice pm nm cm, .int .i64 t.sym] 39)) = W0 at *
  clear hW
  refine (Hw.out _ b0).mono ?_
  rintro e w1 ⟨rfl, b1⟩
  have bw1 := bel_go b1 b0
  cases hx : (er != 0)
  case true =>
    have Hx := hid hx
    clear q0 bx
    go_wp2
    go_ret2
    have hne : plWrong p t ≠ 0 := by rw [Her.out]; simpa using Hx.out
    exact ⟨⟨by rw [Hr.out, plMake_bad hne, Her.out]; rfl, S, by rw [Hr.out, plMake_bad hne]; exact Hpo.out.below bw1, fun k h => .inl h, Apart.of_below bw1⟩, WordsStay.of_below bw1⟩
  case false =>
    have hz : plWrong p t = 0 := by rw [Her.out]; simpa using hx
    have Hz := hid hz
    have bx1 := (b1.block w.heap.size (by omega)).trans bx
    have q1 := five_cells bx1
    have hz1 := b1.size
    have Hown := hid (ownTerm_any t _ w1 (Hpt.out.below bw1) hla)
    clear q0 bx hz Hw
    obtain ⟨x0, x1, x2, x3, x4⟩ := q1
    go_wp2_with fail
    refine Hown.out.mono ?_
    rintro e w2 ⟨v2, rfl, hT, b2⟩
    obtain ⟨pa2, ca2, pm2, nm2, cm2, rfl, ho2, hn2⟩ := hT
    have bx2 := (b2.block w.heap.size (by omega)).trans bx1
    have q2 := five_all bx2
    obtain ⟨⟨x0, x1, x2, x3, x4⟩, fz, -⟩ := q2
    have f0 := fz 0; have f1 := fz 1; have f2 := fz 2; have f3 := fz 3; have f4 := fz 4
    clear fz Hown
    go_upto_region 7 with fail
    clear x0 x1 x2 x3 x4 f0 f1 f2 f3 f4
    have bx3 := set5_same bx2 (.int .i64 t.op) (.slice pa2 t.args.length ca2) (.bool (decide (t.num < 0))) (.slice pm2 nm2 cm2) (.int .i64 t.sym)
    have E3 : ∀ k, k ≠ w.heap.size → (((((w2.setCell ⟨w.heap.size, 0, none⟩ (.int .i64 t.op)).setCell ⟨w.heap.size, 1, none⟩ (.slice pa2 t.args.length ca2)).setCell ⟨w.heap.size, 2, none⟩ (.bool (decide (t.num < 0)))).setCell ⟨w.heap.size, 3, none⟩ (.slice pm2 nm2 cm2)).setCell ⟨w.heap.size, 4, none⟩ (.int .i64 t.sym)).heap[k]? = w2.heap[k]? := fun k hk => set5_heap hk
    have b3 : Below w.heap.size w (((((w2.setCell ⟨w.heap.size, 0, none⟩ (.int .i64 t.op)).setCell ⟨w.heap.size, 1, none⟩ (.slice pa2 t.args.length ca2)).setCell ⟨w.heap.size, 2, none⟩ (.bool (decide (t.num < 0)))).setCell ⟨w.heap.size, 3, none⟩ (.slice pm2 nm2 cm2)).setCell ⟨w.heap.size, 4, none⟩ (.int .i64 t.sym)) := (((((bel_go b2 bw1).setCell (p := ⟨w.heap.size, 0, none⟩) (Nat.le_refl _) _).setCell (p := ⟨w.heap.size, 1, none⟩) (Nat.le_refl _) _).setCell (p := ⟨w.heap.size, 2, none⟩) (Nat.le_refl _) _).setCell (p := ⟨w.heap.size, 3, none⟩) (Nat.le_refl _) _).setCell (p := ⟨w.heap.size, 4, none⟩) (Nat.le_refl _) _
    have hz3 : (((((w2.setCell ⟨w.heap.size, 0, none⟩ (.int .i64 t.op)).setCell ⟨w.heap.size, 1, none⟩ (.slice pa2 t.args.length ca2)).setCell ⟨w.heap.size, 2, none⟩ (.bool (decide (t.num < 0)))).setCell ⟨w.heap.size, 3, none⟩ (.slice pm2 nm2 cm2)).setCell ⟨w.heap.size, 4, none⟩ (.int .i64 t.sym)).heap.size = w2.heap.size := by simp [World.setCell]
    generalize hW3 : (((((w2.setCell ⟨w.heap.size, 0, none⟩ (.int .i64 t.op)).setCell ⟨w.heap.size, 1, none⟩ (.slice pa2 t.args.length ca2)).setCell ⟨w.heap.size, 2, none⟩ (.bool (decide (t.num < 0)))).setCell ⟨w.heap.size, 3, none⟩ (.slice pm2 nm2 cm2)).setCell ⟨w.heap.size, 4, none⟩ (.int .i64 t.sym)) = W3 at *
    have hlow : w.heap.size < w1.heap.size := by omega
    have ho3 : W3.ownsRow w1.heap.size 3 1 (.slice pa2 t.args.length ca2) t.args.length (zints t.args) := row_stays ho2 fun k hk => E3 k (by have := (World.ownsRow.lt ho2 k hk).1; omega)
    have hn3 : Own W3 w1.heap.size 98 .u64 (.slice pm2 nm2 cm2) (dig W t.num.natAbs) := row_stays hn2 fun k hk => E3 k (by have := (World.ownsRow.lt hn2 k hk).1; omega)
    have hT3 : TmTold w1.heap.size W3 (.agg #[.int .i64 t.op, .slice pa2 t.args.length ca2, .bool (decide (t.num < 0)), .slice pm2 nm2 cm2, .int .i64 t.sym]) t := ⟨pa2, ca2, pm2, nm2, cm2, rfl, ho3, hn3⟩
    have htx := textOf_any w1.heap.size t _ W3 hT3 hla hszt (Htab.out.at (b3.mono hB) (Nat.le_trans hB b3.size)) (fields_range Hpo.out.2.1 Hz.out hszt)
    have Htx := hid htx
    have q3 := five_cells bx3
    have Ho3 := hid ho3; have Hn3 := hid hn3
    clear htx hT3 bx2 bx1 ho2 hn2 hW3 E3 ho3 hn3
    obtain ⟨x0, x1, x2, x3, x4⟩ := q3
    go_wp2_with fail
    refine Htx.out.mono ?_
    rintro e w4 ⟨rfl, b4⟩
    clear x0 x1 x2 x3 x4 Htx
    have bw4 := bel_go b4 b3
    have hsb := b2.size
    have bx4 := (b4.block w.heap.size (by omega)).trans bx3
    have Ho4 := hid (ownsRow_later Ho3.out b4); have Hn4 := hid (Hn3.out.kept b4)
    have h4 := Hpo.out.below bw4
    obtain ⟨⟨vs, vt, vo, mn, mk, cs, H4⟩, hok, hSlt⟩ := h4
    have HH4 := hid H4
    have Hok := hid hok
    have HS4 := hid Hpo.out.2.2
    have hTx : (plText t).length ≤ maxLen := by
      have := plText_len t hla hszt (fields_range hok Hz.out hszt)
      unfold maxLen; omega
    have hhas := fun w' hb => has_any 0 mk (plTexts p) (plText t) w' (H4.texts.1.below (w' := w') hb) hTx
    rw [texts_contains] at hhas
    have Hhas := hid hhas
    have q4 := five_cells H4.cell
    have HTx := hid hTx
    have hz4 := b4.size
    clear b4 b3 Ho3 Hn3 bx3 hhas H4 hok hSlt hTx
    obtain ⟨x0, x1, x2, x3, x4⟩ := q4
    cases hf : plFind p.terms t with
    | some k =>
      have Hf := hid hf
      rw [hf] at Hhas
      simp only [Option.isSome_some] at Hhas
      have hkk := plFind_some hf
      obtain ⟨hk, hke⟩ := hkk
      have hkt : k < (plTexts p).length := by simp [plTexts]; exact hk
      have hkx : (plTexts p)[k] = plText t := by simp [plTexts, hke]
      have hlook : (Instr.lookup 65 (.map mk) (.string ⟨(plText t).toArray⟩) false).run Tryd.prog w4 = .ok (.int .i64 (k : Nat)) w4 := by
        rcases HH4.out.texts.1 with ⟨-, h2⟩ | ⟨b', rfl, -, hm⟩
        · rw [h2] at hkt; simp at hkt
        · obtain ⟨c, hrun, hat, -⟩ := hm.lookup_int (Maps.string_keyed Tryd.underlying9) Tryd.underlying65 Tryd.underlying3 (zeroInt _) (key_of (plText t) HTx.out)
          rw [← hkx, mapD_at _ (texts_nodup Hok.out) k hkt] at hat
          injection hat with hat
          injection hat with _ hat
          rw [hat]; exact hrun
      clear hf hkx hkt hke hk
      go_wp2_with (refine (Hhas.out _ (Below.refl _ _)).mono ?_; rintro e w4 ⟨rfl, rfl⟩)
      go_ret2
      exact ⟨⟨by rw [Hr.out, plMake_there Hz.out Hf.out]; rfl, S, by rw [Hr.out, plMake_there Hz.out Hf.out]; exact Hpo.out.below bw4, fun k h => .inl h, Apart.of_below bw4⟩, WordsStay.of_below bw4⟩
    | none =>
      have Hf := hid hf
      rw [hf] at Hhas
      simp only [Option.isSome_none] at Hhas
      obtain ⟨pt, cpt, evt⟩ := ownsRow_shape HH4.out.terms
      cases hfull : ((p.terms.length : Int) == 4096)
      case true =>
        have Hfl := hid (show p.terms.length = 4096 by simp at hfull; omega)
        subst evt
        clear hf
        go_wp2_with (refine (Hhas.out _ (Below.refl _ _)).mono ?_; rintro e w4 ⟨rfl, rfl⟩)
        go_ret2
        exact ⟨⟨by rw [Hr.out, plMake_full Hz.out Hf.out Hfl.out]; rfl, S, by rw [Hr.out, plMake_full Hz.out Hf.out Hfl.out]; exact Hpo.out.below bw4, fun k h => .inl h, Apart.of_below bw4⟩, WordsStay.of_below bw4⟩
      case false =>
        have hfl : p.terms.length ≠ 4096 := by simp at hfull; omega
        have Hfl := hid hfl
        have Hevt := hid evt
        subst evt
        clear hf hfl
        go_upto_region 13 with (refine (Hhas.out _ (Below.refl _ _)).mono ?_; rintro e w4 ⟨rfl, rfl⟩)
        clear x0 x1 x2 x3 x4 hfull
        have S5 : PoParts w4 (Wide S w.heap.size) g p (plNames p) (plTexts p) vs (.slice pt p.terms.length cpt) vo mn mk cs := HH4.out.stays (fun k h => .inl h) (fun _ _ _ => rfl)
        have HS5 := hid S5
        have Hvlt : Hid (∀ k, vo.ownBlock = some k → k < w4.heap.size) := hid fun k hk => (World.ownsRow.lt S5.sorts k hk).2
        have Hrow := hid S5.sorts
        have hvN : vo.ownBlock ≠ some w.heap.size := fun e => tag_ne bx4 (row_tag S5.sorts _ e).choose_spec (by decide) rfl
        have hvg : vo.ownBlock ≠ some g := fun e => row_ne S5.sorts S5.cell (by decide) g e rfl
        have HS : Hid (∀ w', Apart (fun k => vo.ownBlock = some k) w4 w' → (w'.cell? ⟨g, 0, none⟩ = some vs ∧ w'.cell? ⟨g, 1, none⟩ = some (.slice pt p.terms.length cpt) ∧ w'.cell? ⟨g, 2, none⟩ = some vo ∧ w'.cell? ⟨g, 3, none⟩ = some (.map mn) ∧ w'.cell? ⟨g, 4, none⟩ = some (.map mk)) ∧ ((∀ j, w'.frozen? ⟨g, j, none⟩ = false) ∧ True) ∧
            (w'.cell? ⟨w.heap.size, 0, none⟩ = some (.int .i64 t.op) ∧ w'.cell? ⟨w.heap.size, 1, none⟩ = some (.slice pa2 t.args.length ca2) ∧ w'.cell? ⟨w.heap.size, 2, none⟩ = some (.bool (decide (t.num < 0))) ∧ w'.cell? ⟨w.heap.size, 3, none⟩ = some (.slice pm2 nm2 cm2) ∧ w'.cell? ⟨w.heap.size, 4, none⟩ = some (.int .i64 t.sym))) := fun w' ha => by
          have h1 := five_all ((ha.block g S5.lt hvg).trans S5.cell)
          exact ⟨h1.1, h1.2, five_cells ((ha.block w.heap.size (lt_of_block bx4) hvN).trans bx4)⟩
        have hszn : p.sorts.length ≤ 4096 := by have := Hok.out.sorts; have := Hok.out.terms; omega
        have Hrd := hid (S5.rd Hok.out.terms Hok.out.syms Hok.out.sorts)
        have hraw4 : TmRaw w4 (.agg #[.int .i64 t.op, .slice pa2 t.args.length ca2, .bool (decide (t.num < 0)), .slice pm2 nm2 cm2, .int .i64 t.sym]) t := ⟨pa2, ca2, _, pm2, nm2, cm2, rfl, IAt.own (ownsRow_mono Ho4.out (Nat.zero_le _)), IntAt.raw ⟨_, rfl, Hn4.out.at⟩ hszt⟩
        have Hraw := hid hraw4
        obtain ⟨i0, hii, hiz0, hiz1, hiz2⟩ := elemInts.row
        have hns := (plWrong_zero Hz.out).2.1
        have Hns := hid hns
        have Hite := hid (iteIn_of p t (plWrong_zero Hz.out).2.2.1 (plWrong_zero Hz.out).2.2.2.1)
        have Hb4 := hid bx4; have Hbw4 := hid bw4
        clear S5 hvN hvg hraw4 hns Hhas bx4 bw4
        refine wp_region_write (w0 := w4) 12 1 [44, 45, 46, 47, 48, 49, 50, 51, 52, 53, 54, 55] [undef, undef, undef, undef, undef, undef, undef, undef, undef, undef, undef, undef] (S := (fun k => vo.ownBlock = some k))
          (fun i => match i with | 0 => wEq (.pointer (some ⟨g, 0, none⟩)) | 1 => wEq (.pointer (some ⟨g, 0, none⟩)) | 2 => wEq (.pointer (some ⟨g, 0, none⟩)) | 3 => wEq (.pointer (some ⟨g, 2, none⟩)) | 4 => wEq vo | 5 => wEq (.pointer (some ⟨g, 0, none⟩)) | 6 => wEq (.agg #[.int .i64 t.op, .slice pa2 t.args.length ca2, .bool (decide (t.num < 0)), .slice pm2 nm2 cm2, .int .i64 t.sym]) | 7 => wEq (.int .i64 (plSort p t)) | 8 => wRow [.int .i64 (plSort p t)] 3 | 9 => wAny | 10 => wEq (.pointer (some ⟨g, 0, none⟩)) | _ => wEq (.pointer (some ⟨g, 2, none⟩))) 9 (RowJ 3 1 (p.sorts.length + 1) ((zints p.sorts) ++ [.int .i64 (plSort p t)]) vo w4.heap.size) (fun _ _ _ h hb => h.below hb) (by kernel_rfl) (by kernel_rfl) (by kernel_rfl) (by kernel_rfl) (by decide) rfl (by kernel_rfl) rfl (by decide) ?he1 ?_ ?_
        case he1 => simp only [putAll, Act.put, List.setIfInBounds_toArray, List.set_cons_zero, List.set_cons_succ]
        · intro i o hi ho vs wx hvl hb hB hdep K hK
          have hvs := vlen12 hvl
          obtain ⟨s44, s45, s46, s47, s48, s49, s50, s51, s52, s53, s54, s55, rfl⟩ := hvs
          clear hvl
          have hk := HS.out wx hb
          obtain ⟨⟨q0, q1, q2, q3, q4⟩, -, hbox⟩ := hk
          go_split_ands
          rcases i with _ | _ | _ | _ | _ | _ | _ | _ | _ | _ | _ | _ | i
          all_goals (simp only [List.getElem?_toArray, List.getElem?_cons_zero, List.getElem?_cons_succ, Option.some.injEq] at ho)
          all_goals try (subst ho)
          all_goals try simp only [putAll, Act.put, List.setIfInBounds_toArray, List.set_cons_zero, List.set_cons_succ]
          · go_simp
            have hK' := hK.out
            simp only [putAll, Act.put, List.setIfInBounds_toArray, List.set_cons_zero, List.set_cons_succ] at hK'
            exact hK' _ _ rfl (fun _ => Below.refl _ _) (fun h => absurd h (by decide))
          · go_simp
            have hK' := hK.out
            simp only [putAll, Act.put, List.setIfInBounds_toArray, List.set_cons_zero, List.set_cons_succ] at hK'
            exact hK' _ _ rfl (fun _ => Below.refl _ _) (fun h => absurd h (by decide))
          · have e1 : s45 = _ := hdep ⟨1, .data⟩ (by simp) rfl
            have e1 := e1.symm
            subst e1
            go_simp
            have hK' := hK.out
            simp only [putAll, Act.put, List.setIfInBounds_toArray, List.set_cons_zero, List.set_cons_succ] at hK'
            exact hK' _ _ rfl (fun _ => Below.refl _ _) (fun h => absurd h (by decide))
          · have e2 : s46 = _ := hdep ⟨2, .data⟩ (by simp) rfl
            have e2 := e2.symm
            subst e2
            go_simp
            have hK' := hK.out
            simp only [putAll, Act.put, List.setIfInBounds_toArray, List.set_cons_zero, List.set_cons_succ] at hK'
            exact hK' _ _ rfl (fun _ => Below.refl _ _) (fun h => absurd h (by decide))
          · have e3 : s47 = _ := hdep ⟨3, .data⟩ (by simp) rfl
            have e3 := e3.symm
            subst e3
            go_simp
            have hK' := hK.out
            simp only [putAll, Act.put, List.setIfInBounds_toArray, List.set_cons_zero, List.set_cons_succ] at hK'
            exact hK' _ _ rfl (fun _ => Below.refl _ _) (fun h => absurd h (by decide))
          · go_simp
            have hK' := hK.out
            simp only [putAll, Act.put, List.setIfInBounds_toArray, List.set_cons_zero, List.set_cons_succ] at hK'
            exact hK' _ _ rfl (fun _ => Below.refl _ _) (fun h => absurd h (by decide))
          · go_simp
            have hK' := hK.out
            simp only [putAll, Act.put, List.setIfInBounds_toArray, List.set_cons_zero, List.set_cons_succ] at hK'
            exact hK' _ _ rfl (fun _ => Below.refl _ _) (fun h => absurd h (by decide))
          · have e5 : s49 = _ := hdep ⟨5, .data⟩ (by simp) rfl
            have e5 := e5.symm
            subst e5
            have e6 : s50 = _ := hdep ⟨6, .data⟩ (by simp) rfl
            have e6 := e6.symm
            subst e6
            have hbB := hB (Or.inr (by kernel_rfl))
            go_simp
            refine (sortOf_any g p t _ _ (Hrd.out.below hbB) (Hraw.out.below hbB) Hns.out Hite.out).mono ?_
            rintro e wy ⟨rfl, hby⟩
            go_wp2_with fail
            have hK' := hK.out
            simp only [putAll, Act.put, List.setIfInBounds_toArray, List.set_cons_zero, List.set_cons_succ] at hK'
            exact hK' _ _ rfl (fun _ => hby) (fun h => absurd h (by decide))
          · have e7 : s51 = _ := hdep ⟨7, .data⟩ (by simp) rfl
            have e7 := e7.symm
            subst e7
            go_simp
            have hK' := hK.out
            simp only [putAll, Act.put, List.setIfInBounds_toArray, List.set_cons_zero, List.set_cons_succ] at hK'
            exact hK' _ _ ⟨_, rfl, heap_alloc_new _ _, fun e => by have := Hvlt.out _ e; have := hb.size; omega⟩ (fun _ => below1 _ _) (fun h => absurd h (by decide))
          · have e4 : s48 = _ := hdep ⟨4, .data⟩ (by simp) rfl
            have e4 := e4.symm
            subst e4
            have e8 : (wRow [.int .i64 (plSort p t)] 3).P s52 wx := hdep ⟨8, .data⟩ (by simp) rfl
            have hbB := hB (Or.inl rfl)
            obtain ⟨gg, e8, hg8, -⟩ := e8
            subst e8
            have hrow : wx.ownsRow 0 3 1 vo p.sorts.length (zints p.sorts) := row_stays Hrow.out fun k hk => hbB.block k (Hvlt.out k hk)
            have hK' := hK.out
            simp only [putAll, Act.put, List.setIfInBounds_toArray, List.set_cons_zero, List.set_cons_succ] at hK'
            rw [if_pos (by rfl)]
            refine step_append (.tmp 48) (.tmp 52) 33 ?ho 0 3 i0 (.int .i64 0) 1 8 elemInts.und hii hiz0 hiz1 hiz2 rfl (by decide) vo p.sorts.length (zints p.sorts) ?hs hrow ⟨gg, 0, none⟩ 1 1 [.int .i64 (plSort p t)] ?hx rfl ?c1 ?c2 ?c3 ?c4 (Nat.zero_le _) ?_
            case ho => rfl
            case hs => rfl
            case hx => rfl
            case c1 => exact cells_at hg8
            case c2 => intro u hu; simp at hu; (subst hu; rfl)
            case c3 => simp [maxLen]; omega
            case c4 => omega
            intro v' w' hown' hgrow hat
            refine hK' _ _ trivial (fun h => absurd rfl h) (fun _ => ⟨(Apart.refl _ _).grown hgrow (fun k e => e), hown', ?_⟩)
            rcases hat with hat | hat
            · exact .inl hat
            · exact .inr fun k hk => by rw [hat] at hk; cases hk; exact hbB.size
          · have e0 : s44 = _ := hdep ⟨0, .data⟩ (by simp) rfl
            have e0 := e0.symm
            subst e0
            go_simp
            have hK' := hK.out
            simp only [putAll, Act.put, List.setIfInBounds_toArray, List.set_cons_zero, List.set_cons_succ] at hK'
            exact hK' _ _ rfl (fun _ => Below.refl _ _) (fun h => absurd h (by decide))
          · have e10 : s54 = _ := hdep ⟨10, .data⟩ (by simp) rfl
            have e10 := e10.symm
            subst e10
            go_simp
            have hK' := hK.out
            simp only [putAll, Act.put, List.setIfInBounds_toArray, List.set_cons_zero, List.set_cons_succ] at hK'
            exact hK' _ _ rfl (fun _ => Below.refl _ _) (fun h => absurd h (by decide))
          · omega
        · intro vs wx hvl hb hf hJw
          have hvs := vlen12 hvl
          obtain ⟨s44, s45, s46, s47, s48, s49, s50, s51, s52, s53, s54, s55, rfl⟩ := hvs
          have fp : s55 = .pointer (some ⟨g, 2, none⟩) := hf 11 (by decide)
          subst fp
          have hJw : RowJ 3 1 (p.sorts.length + 1) ((zints p.sorts) ++ [.int .i64 (plSort p t)]) vo w4.heap.size s53 wx := hJw
          obtain ⟨hj1, hj2⟩ := hJw
          obtain ⟨pv, cv, ev⟩ := ownsRow_shape hj1
          subst ev
          clear hf hvl
          have hk := HS.out wx hb
          obtain ⟨⟨q0, q1, q2, q3, q4⟩, ⟨fz, -⟩, -⟩ := hk
          refine wpAny_one (i := 12) (by kernel_rfl) rfl ?_
          intro K hK
          simp only [putAll, Act.put, List.setIfInBounds_toArray, List.set_cons_zero, List.set_cons_succ]
          have hK' := hK.out
          have fzz := fz 2
          go_simp
          apply hK'
          clear hK hK' q0 q1 q2 q3 q4 fz fzz
          refine wpAny_done (by kernel_rfl) ?_ _
          try simp only [putAll, Act.put, List.setIfInBounds_toArray, List.set_cons_zero, List.set_cons_succ]
          have S6 := HS5.out.sort (plSort p t) hb hj1 hj2 (fun k hk => .inr (Nat.le_trans Hbw4.out.size hk))
          have A6 : Apart S w4 (wx.setCell ⟨g, 2, none⟩ (.slice pv (p.sorts.length + 1) cv)) := (hb.mono fun k hk => HH4.out.sortsIn k hk).setCell (p := ⟨g, 2, none⟩) HH4.out.own _
          have V6 : Hid (WordsStay w4 (wx.setCell ⟨g, 2, none⟩ (.slice pv (p.sorts.length + 1) cv))) := hid (WordsStay.step 2 _ hb (words_row HH4.out.sorts (by decide)) HH4.out.cell)
          have E6 : ∀ k, k < w4.heap.size → k ≠ g → vo.ownBlock ≠ some k → (wx.setCell ⟨g, 2, none⟩ (.slice pv (p.sorts.length + 1) cv)).heap[k]? = w4.heap[k]? := fun k h1 h2 h3 => (Below.heap_setCell _ _ _ _ h2).trans (hb.block k h1 h3)
          have hvs : ∀ k, vo.ownBlock = some k → k < w.heap.size := fun k hk => HS4.out k (HH4.out.sortsIn k hk)
          have hgs : g < w.heap.size := HS4.out g HH4.out.own
          have hz4w := Hbw4.out.size
          have eA : ∀ k, (Value.slice pa2 t.args.length ca2).ownBlock = some k → (wx.setCell ⟨g, 2, none⟩ (.slice pv (p.sorts.length + 1) cv)).heap[k]? = w4.heap[k]? := fun k hk => by
            have h1 := World.ownsRow.lt Ho4.out k hk
            exact E6 k h1.2 (by omega) (fun e => by have := hvs k e; omega)
          have eN : ∀ k, (Value.slice pm2 nm2 cm2).ownBlock = some k → (wx.setCell ⟨g, 2, none⟩ (.slice pv (p.sorts.length + 1) cv)).heap[k]? = w4.heap[k]? := fun k hk => by
            have h1 := World.ownsRow.lt Hn4.out k hk
            exact E6 k h1.2 (by omega) (fun e => by have := hvs k e; omega)
          have htm : TmIn (wx.setCell ⟨g, 2, none⟩ (.slice pv (p.sorts.length + 1) cv)) (Wide S w.heap.size) (.slice pv (p.sorts.length + 1) cv) t [.int .i64 t.op, .slice pa2 t.args.length ca2, .bool (decide (t.num < 0)), .slice pm2 nm2 cm2, .int .i64 t.sym] :=
            ⟨_, _, rfl, ownsRow_mono (row_stays Ho4.out eA) (Nat.zero_le _), Own.mono (row_stays Hn4.out eN) (Nat.zero_le _), fun k hk => .inr (by have := (World.ownsRow.lt Ho4.out k hk).1; omega), fun k hk => .inr (by have := (World.ownsRow.lt Hn4.out k hk).1; omega),
             fun k hk e => by
               have h1 := World.ownsRow.lt Ho4.out k hk
               rcases hj2 with h | h
               · rw [h] at e; have := hvs k e; omega
               · have := h k e; omega⟩
          have bx6 : (wx.setCell ⟨g, 2, none⟩ (.slice pv (p.sorts.length + 1) cv)).heap[w.heap.size]? = _ := (E6 w.heap.size (lt_of_block Hb4.out) (by omega) (fun e => by have := hvs _ e; omega)).trans Hb4.out
          generalize hW6 : (wx.setCell ⟨g, 2, none⟩ (.slice pv (p.sorts.length + 1) cv)) = w6 at *
          clear hW6 E6 eA eN hb hj1 hj2 Hvlt Hrow HS Hrd Hraw Hns Hite HS5 Hb4 Ho4 Hn4
          have HS6 := hid S6
          have Htm := hid htm
          have HA6 := hid A6
          have Hvlt : Hid (∀ k, (Value.slice pt p.terms.length cpt).ownBlock = some k → k < w6.heap.size) := hid fun k hk => (World.ownsRow.lt S6.terms k hk).2
          have Hrow := hid S6.terms
          have hvN : (Value.slice pt p.terms.length cpt).ownBlock ≠ some w.heap.size := fun e => by have := HS4.out _ (HH4.out.termsIn _ e); omega
          have hvg : (Value.slice pt p.terms.length cpt).ownBlock ≠ some g := fun e => row_ne S6.terms S6.cell (by decide) g e rfl
          have HS : Hid (∀ w', Apart (fun k => (Value.slice pt p.terms.length cpt).ownBlock = some k) w6 w' → (w'.cell? ⟨g, 0, none⟩ = some vs ∧ w'.cell? ⟨g, 1, none⟩ = some (.slice pt p.terms.length cpt) ∧ w'.cell? ⟨g, 2, none⟩ = some (.slice pv (p.sorts.length + 1) cv) ∧ w'.cell? ⟨g, 3, none⟩ = some (.map mn) ∧ w'.cell? ⟨g, 4, none⟩ = some (.map mk)) ∧ ((∀ j, w'.frozen? ⟨g, j, none⟩ = false) ∧ True) ∧
              (w'.cell? ⟨w.heap.size, 0, none⟩ = some (.int .i64 t.op) ∧ w'.cell? ⟨w.heap.size, 1, none⟩ = some (.slice pa2 t.args.length ca2) ∧ w'.cell? ⟨w.heap.size, 2, none⟩ = some (.bool (decide (t.num < 0))) ∧ w'.cell? ⟨w.heap.size, 3, none⟩ = some (.slice pm2 nm2 cm2) ∧ w'.cell? ⟨w.heap.size, 4, none⟩ = some (.int .i64 t.sym))) := fun w' ha => by
            have h1 := five_all ((ha.block g S6.lt hvg).trans S6.cell)
            exact ⟨h1.1, h1.2, five_cells ((ha.block w.heap.size (lt_of_block bx6) hvN).trans bx6)⟩
          have htn := Hok.out.terms
          obtain ⟨i1, hij, hjz0, hjz1, hjz2⟩ := info_parts infoTerm
          have hz46 := A6.size
          clear S6 htm A6 hvN hvg bx6 hvs
          go_upto_region 14 with fail
          refine wp_region_write (w0 := w6) 10 1 [56, 57, 58, 59, 60, 61, 62, 63, 64, 65] [undef, undef, undef, undef, undef, undef, undef, undef, undef, undef] (S := (fun k => (Value.slice pt p.terms.length cpt).ownBlock = some k))
            (fun i => match i with | 0 => wEq (.pointer (some ⟨g, 0, none⟩)) | 1 => wEq (.pointer (some ⟨g, 0, none⟩)) | 2 => wEq (.pointer (some ⟨g, 0, none⟩)) | 3 => wEq (.pointer (some ⟨g, 1, none⟩)) | 4 => wEq (Value.slice pt p.terms.length cpt) | 5 => wEq (.agg #[.int .i64 t.op, .slice pa2 t.args.length ca2, .bool (decide (t.num < 0)), .slice pm2 nm2 cm2, .int .i64 t.sym]) | 6 => wRow [.int .i64 t.op, .slice pa2 t.args.length ca2, .bool (decide (t.num < 0)), .slice pm2 nm2 cm2, .int .i64 t.sym] 39 | 7 => wAny | 8 => wEq (.pointer (some ⟨g, 0, none⟩)) | _ => wEq (.pointer (some ⟨g, 1, none⟩))) 7 (RowJ 39 5 (p.terms.length + 1) (cs ++ [.int .i64 t.op, .slice pa2 t.args.length ca2, .bool (decide (t.num < 0)), .slice pm2 nm2 cm2, .int .i64 t.sym]) (Value.slice pt p.terms.length cpt) w6.heap.size) (fun _ _ _ h hb => h.below hb) (by kernel_rfl) (by kernel_rfl) (by kernel_rfl) (by kernel_rfl) (by decide) rfl (by kernel_rfl) rfl (by decide) ?he2 ?_ ?_
          case he2 => simp only [putAll, Act.put, List.setIfInBounds_toArray, List.set_cons_zero, List.set_cons_succ]
          · intro i o hi ho vs wx hvl hb hB hdep K hK
            have hvs := vlen10 hvl
            obtain ⟨s56, s57, s58, s59, s60, s61, s62, s63, s64, s65, rfl⟩ := hvs
            clear hvl
            have hk := HS.out wx hb
            obtain ⟨⟨q0, q1, q2, q3, q4⟩, -, hbox⟩ := hk
            go_split_ands
            rcases i with _ | _ | _ | _ | _ | _ | _ | _ | _ | _ | i
            all_goals (simp only [List.getElem?_toArray, List.getElem?_cons_zero, List.getElem?_cons_succ, Option.some.injEq] at ho)
            all_goals try (subst ho)
            all_goals try simp only [putAll, Act.put, List.setIfInBounds_toArray, List.set_cons_zero, List.set_cons_succ]
            · go_simp
              have hK' := hK.out
              simp only [putAll, Act.put, List.setIfInBounds_toArray, List.set_cons_zero, List.set_cons_succ] at hK'
              exact hK' _ _ rfl (fun _ => Below.refl _ _) (fun h => absurd h (by decide))
            · go_simp
              have hK' := hK.out
              simp only [putAll, Act.put, List.setIfInBounds_toArray, List.set_cons_zero, List.set_cons_succ] at hK'
              exact hK' _ _ rfl (fun _ => Below.refl _ _) (fun h => absurd h (by decide))
            · have e1 : s57 = _ := hdep ⟨1, .data⟩ (by simp) rfl
              have e1 := e1.symm
              subst e1
              go_simp
              have hK' := hK.out
              simp only [putAll, Act.put, List.setIfInBounds_toArray, List.set_cons_zero, List.set_cons_succ] at hK'
              exact hK' _ _ rfl (fun _ => Below.refl _ _) (fun h => absurd h (by decide))
            · have e2 : s58 = _ := hdep ⟨2, .data⟩ (by simp) rfl
              have e2 := e2.symm
              subst e2
              go_simp
              have hK' := hK.out
              simp only [putAll, Act.put, List.setIfInBounds_toArray, List.set_cons_zero, List.set_cons_succ] at hK'
              exact hK' _ _ rfl (fun _ => Below.refl _ _) (fun h => absurd h (by decide))
            · have e3 : s59 = _ := hdep ⟨3, .data⟩ (by simp) rfl
              have e3 := e3.symm
              subst e3
              go_simp
              have hK' := hK.out
              simp only [putAll, Act.put, List.setIfInBounds_toArray, List.set_cons_zero, List.set_cons_succ] at hK'
              exact hK' _ _ rfl (fun _ => Below.refl _ _) (fun h => absurd h (by decide))
            · go_simp
              have hK' := hK.out
              simp only [putAll, Act.put, List.setIfInBounds_toArray, List.set_cons_zero, List.set_cons_succ] at hK'
              exact hK' _ _ rfl (fun _ => Below.refl _ _) (fun h => absurd h (by decide))
            · have e5 : s61 = _ := hdep ⟨5, .data⟩ (by simp) rfl
              have e5 := e5.symm
              subst e5
              go_simp
              have hK' := hK.out
              simp only [putAll, Act.put, List.setIfInBounds_toArray, List.set_cons_zero, List.set_cons_succ] at hK'
              exact hK' _ _ ⟨_, rfl, heap_alloc_new _ _, fun e => by have := Hvlt.out _ e; have := hb.size; omega⟩ (fun _ => below1 _ _) (fun h => absurd h (by decide))
            · have e4 : s60 = _ := hdep ⟨4, .data⟩ (by simp) rfl
              have e4 := e4.symm
              subst e4
              have e6 : (wRow [.int .i64 t.op, .slice pa2 t.args.length ca2, .bool (decide (t.num < 0)), .slice pm2 nm2 cm2, .int .i64 t.sym] 39).P s62 wx := hdep ⟨6, .data⟩ (by simp) rfl
              have hbB := hB (Or.inl rfl)
              obtain ⟨gg, e8, hg8, -⟩ := e6
              subst e8
              have hrow : wx.ownsRow 0 39 5 (Value.slice pt p.terms.length cpt) p.terms.length cs := row_stays Hrow.out fun k hk => hbB.block k (Hvlt.out k hk)
              have hK' := hK.out
              simp only [putAll, Act.put, List.setIfInBounds_toArray, List.set_cons_zero, List.set_cons_succ] at hK'
              rw [if_pos (by rfl)]
              refine step_append (.tmp 60) (.tmp 62) 23 ?ho 0 39 i1 (.agg #[.int .i64 0, .slice none 0 0, .bool false, .slice none 0 0, .int .i64 0]) 5 72 Tryd.underlying23 hij hjz0 hjz1 hjz2 rfl (by decide) (Value.slice pt p.terms.length cpt) p.terms.length cs ?hs hrow ⟨gg, 0, none⟩ 1 1 [.int .i64 t.op, .slice pa2 t.args.length ca2, .bool (decide (t.num < 0)), .slice pm2 nm2 cm2, .int .i64 t.sym] ?hx rfl ?c1 ?c2 ?c3 ?c4 (Nat.zero_le _) ?_
              case ho => rfl
              case hs => rfl
              case hx => rfl
              case c1 => exact cells_at hg8
              case c2 => intro u hu; simp at hu; (rcases hu with rfl | rfl | rfl | rfl | rfl <;> rfl)
              case c3 => simp [maxLen]; omega
              case c4 => omega
              intro v' w' hown' hgrow hat
              refine hK' _ _ trivial (fun h => absurd rfl h) (fun _ => ⟨(Apart.refl _ _).grown hgrow (fun k e => e), hown', ?_⟩)
              rcases hat with hat | hat
              · exact .inl hat
              · exact .inr fun k hk => by rw [hat] at hk; cases hk; exact hbB.size
            · have e0 : s56 = _ := hdep ⟨0, .data⟩ (by simp) rfl
              have e0 := e0.symm
              subst e0
              go_simp
              have hK' := hK.out
              simp only [putAll, Act.put, List.setIfInBounds_toArray, List.set_cons_zero, List.set_cons_succ] at hK'
              exact hK' _ _ rfl (fun _ => Below.refl _ _) (fun h => absurd h (by decide))
            · have e8 : s64 = _ := hdep ⟨8, .data⟩ (by simp) rfl
              have e8 := e8.symm
              subst e8
              go_simp
              have hK' := hK.out
              simp only [putAll, Act.put, List.setIfInBounds_toArray, List.set_cons_zero, List.set_cons_succ] at hK'
              exact hK' _ _ rfl (fun _ => Below.refl _ _) (fun h => absurd h (by decide))
            · omega
          · intro vs wx hvl hb hf hJw
            have hvs := vlen10 hvl
            obtain ⟨s56, s57, s58, s59, s60, s61, s62, s63, s64, s65, rfl⟩ := hvs
            have fp : s65 = .pointer (some ⟨g, 1, none⟩) := hf 9 (by decide)
            subst fp
            have hJw : RowJ 39 5 (p.terms.length + 1) (cs ++ [.int .i64 t.op, .slice pa2 t.args.length ca2, .bool (decide (t.num < 0)), .slice pm2 nm2 cm2, .int .i64 t.sym]) (Value.slice pt p.terms.length cpt) w6.heap.size s63 wx := hJw
            obtain ⟨hj1, hj2⟩ := hJw
            obtain ⟨pv2, cv2, ev⟩ := ownsRow_shape hj1
            subst ev
            clear hf hvl
            have hk := HS.out wx hb
            obtain ⟨⟨q0, q1, q2, q3, q4⟩, ⟨fz, -⟩, -⟩ := hk
            refine wpAny_one (i := 10) (by kernel_rfl) rfl ?_
            intro K hK
            simp only [putAll, Act.put, List.setIfInBounds_toArray, List.set_cons_zero, List.set_cons_succ]
            have hK' := hK.out
            have fzz := fz 1
            go_simp
            apply hK'
            clear hK hK' q0 q1 q2 q3 q4 fz fzz
            refine wpAny_done (by kernel_rfl) ?_ _
            try simp only [putAll, Act.put, List.setIfInBounds_toArray, List.set_cons_zero, List.set_cons_succ]
            have S7 := HS6.out.term t Htm.out hb hj1 hj2 (fun k hk => .inr (by omega))
            have A7 : Apart S w4 (wx.setCell ⟨g, 1, none⟩ (.slice pv2 (p.terms.length + 1) cv2)) := HA6.out.go ((hb.mono fun k hk => HH4.out.termsIn k hk).setCell (p := ⟨g, 1, none⟩) HH4.out.own _)
            have V7 : Hid (WordsStay w6 (wx.setCell ⟨g, 1, none⟩ (.slice pv2 (p.terms.length + 1) cv2))) := hid (WordsStay.step 1 _ hb (words_row HS6.out.terms (by decide)) HS6.out.cell)
            generalize hW7 : (wx.setCell ⟨g, 1, none⟩ (.slice pv2 (p.terms.length + 1) cv2)) = w7 at *
            have HS7 := hid S7
            have HA7 := hid A7
            have q7 := five_all S7.cell
            obtain ⟨⟨x0, x1, x2, x3, x4⟩, -⟩ := q7
            have hlt7 : (plTexts p).length = p.terms.length := by simp [plTexts]
            have hwith := with_any 0 mk (plTexts p) (plText t) w7 S7.texts.1 HTx.out (by rw [hlt7]; omega) (Nat.zero_le _)
            rw [hlt7] at hwith
            have Hwith := hid hwith
            clear hW7 hb hj1 hj2 Hvlt Hrow HS HS6 Htm HA6 S7 A7 hlt7 hwith
            go_wp2_with fail
            refine Hwith.out.mono ?_
            rintro e w8 ⟨m', rfl, hm8, hg8, hv8⟩
            have hmg : mk ≠ some g := fun e => by obtain ⟨es, cl, ht⟩ := HS7.out.texts.tag g e; exact map_ne ht HS7.out.cell rfl
            have hcell8 := (hg8.block g HS7.out.lt (fun e => hmg e.symm)).trans HS7.out.cell
            have q8 := five_all hcell8
            obtain ⟨⟨y0, y1, y2, y3, y4⟩, fz, -⟩ := q8
            have fz4 := fz 4
            have hA8 : Apart (fun k => mk = some k) w7 w8 := (Apart.refl _ _).grown hg8 (fun k e => e)
            have S9 := hid (HS7.out.text hA8 hm8 hv8 (fun k hk => .inr (by have := HA7.out.size; omega)))
            have A9 : Hid (Apart S w4 (w8.setCell ⟨g, 4, none⟩ (.map m'))) := hid (HA7.out.go ((hA8.mono fun k hk => HH4.out.texts.2 k hk).setCell (p := ⟨g, 4, none⟩) HH4.out.own _))
            have V9 : Hid (WordsStay w7 (w8.setCell ⟨g, 4, none⟩ (.map m'))) := hid (WordsStay.step 4 _ hA8 (words_map HS7.out.texts) HS7.out.cell)
            clear x0 x1 x2 x3 x4 hm8 hg8 hv8 hcell8 fz hA8 hmg Hwith
            go_wp2
            go_ret2
            have hfin := plMake_new Hz.out Hf.out Hfl.out
            have hlt : p.terms.length < 4096 := by have := Hfl.out; omega
            refine ⟨⟨by rw [Hr.out, hfin]; rfl, fun k => Wide S w.heap.size k ∧ k < (w8.setCell ⟨g, 4, none⟩ (.map m')).heap.size, ?_, ?_, (Apart.of_below Hbw4.out).go A9.out⟩, (WordsStay.of_below Hbw4.out).trans (V6.out.trans (V7.out.trans V9.out))⟩
            · rw [Hr.out, hfin]
              have hb9 := S9.out.bound
              refine ⟨⟨vs, _, _, mn, m', _, by rw [plTexts_snoc]; exact hb9⟩, Hok.out.make Hf.out hlt hla hszt, fun k hk => hk.2⟩
            · intro k hk
              rcases hk.1 with h | h
              · exact .inl h
              · exact .inr h
end Go.Proofs.YtmdkfpidohcafaaDoor
/- PoolMakes answers true. -/
namespace Go.Proofs.YtmdkfpidohcafaaDoor
open Go.RowKit Big Go.WideMaps

/-- where PoolMakes stands: the program's pool, and the reference's rows beside it (in the box G) -/
def MakesAt (w : World) (B G : Nat) (vs : Value) (L : List Tm) (sy : List Sy) (g : Nat) (wr : World) : Prop := ∃ pk Sk vr, PoAt wr Sk g pk ∧ (∀ i, Sk i → w.heap.size ≤ i) ∧ PoGood pk ∧ pk.syms = sy ∧ RfIn w B wr vr pk.terms ∧ (∀ x ∈ pk.terms, x ∈ L) ∧
  wr.heap[G]? = some (.cells #[vs, vr] 27 (0, 0)) ∧ (∀ k, vr.ownBlock = some k → ¬ Sk k) ∧ ¬ Sk G ∧ Below w.heap.size w wr ∧ B ≤ wr.heap.size
theorem MakesAt.below {w wr w' : World} {B G : Nat} {vs : Value} {L : List Tm} {sy : List Sy} {g : Nat} (h : MakesAt w B G vs L sy g wr) (hb : Below wr.heap.size wr w') : MakesAt w B G vs L sy g w' := by
  obtain ⟨pk, Sk, vr, hp, hS, hgood, hsy, hrf, hin, hgk, hvr, hGS, hbw, hBr⟩ := h
  exact ⟨pk, Sk, vr, hp.below hb, hS, hgood, hsy, hrf.below hb, hin, (hb.block G (lt_of_block hgk)).trans hgk, hvr, hGS, bel_go hb hbw, Nat.le_trans hBr hb.size⟩
theorem PoGood.makes {p : Po} (t : Tm) (h : PoGood p) : PoGood (plMake p t).1 ∧ (plMake p t).1.syms = p.syms ∧ (∀ x ∈ (plMake p t).1.terms, x ∈ p.terms ∨ x = t) ∧ ((plMake p t).2.2 = 0 → ∃ k : Nat, (plMake p t).2.1 = ((k : Nat) : Int) ∧ k < (plMake p t).1.terms.length) := by
  by_cases hw : plWrong p t = 0
  · cases hf : plFind p.terms t with
    | some k =>
      rw [plMake_there hw hf]
      obtain ⟨h1, -⟩ := plFind_some hf
      exact ⟨h, rfl, fun x hx => .inl hx, fun _ => ⟨k, rfl, h1⟩⟩
    | none =>
      by_cases h4 : p.terms.length = 4096
      · rw [plMake_full hw hf h4]; exact ⟨h, rfl, fun x hx => .inl hx, fun e => by simp at e⟩
      · rw [plMake_new hw hf h4]
        have := h.2.1
        exact ⟨h.make hw (by omega), rfl, fun x hx => by simpa using hx, fun _ => ⟨_, rfl, by simp⟩⟩
  · rw [plMake_bad hw]; exact ⟨h, rfl, fun x hx => .inl hx, fun e => absurd e hw⟩
theorem row_set {w : World} {b : Nat} {e : TypeId} {v : Value} {n : Nat} {xs : List Value} (h : w.ownsRow b e 1 v n xs) (j : Nat) (hj : j < n) : ∃ gb cap, v = .slice (some ⟨gb, 0, none⟩) n cap ∧ b ≤ gb ∧ gb < w.heap.size ∧ (∃ u, w.cell? ⟨gb, j, none⟩ = some u) ∧ w.frozen? ⟨gb, j, none⟩ = false ∧ ∀ u, ∃ ys, (w.setCell ⟨gb, j, none⟩ u).ownsRow b e 1 v n ys := by
  obtain ⟨hl, h0 | ⟨g, cap, cur, rfl, hg, hh, h1, h2, h3, h4⟩⟩ := h
  · omega
  · have hjc : j < cur.size := by omega
    refine ⟨g, cap, rfl, hg, (Array.getElem?_eq_some_iff.1 hh).1, ⟨cur[j], ?_⟩, frozen_of_row w g j _ _ hh, fun u => ⟨xs.set j u, by simpa using hl, .inr ⟨g, cap, cur.setIfInBounds j u, rfl, hg, heap_setCell_same w g j _ _ u hh, h1, h2, by simpa using h3, ?_⟩⟩⟩
    · rw [cell_of_row w g j _ _ (0, 0) hh]
      simp [hjc]
    · rw [Array.toList_setIfInBounds, List.take_set, h4]
set_option maxRecDepth 100000 in
set_option maxHeartbeats 25600000 in
theorem lawMakes_any (va vb : Value) (sy : List Sy) (tx : List Tx) (w : World) (htab : Tb w.heap.size w) (hs : SyIn w va sy) (ht : TxsIn w vb tx) (hn : ∀ s ∈ sy, s.name.length ≤ 281474976710656) :
    Calls Tryd.prog 3 #[va, vb] w (RBool true w) := by
  have Hs := hid hs; have Ht := hid ht; have Htab := hid htab; have Hn := hid hn
  have hsm := ht.small
  obtain ⟨pa, ca, rfl, i1, i2, -, -⟩ := hs
  obtain ⟨pb, cb, rfl, j1, j2, -, -⟩ := ht
  unfold maxLen at i2 j2
  have Hfx := hid (fixed_any w.heap.size w (Nat.le_refl _) htab)
  clear htab hn
  go_enter Tryd.func3, Tryd.ntmps3
  go_wp2_with fail
  refine Hfx.out.mono ?_
  rintro e w1 ⟨rfl, b1⟩
  have Hb1 := hid b1
  clear b1 Hfx
  cases h300 : decide ((300 : Int) < (sy.length : Nat))
  case true =>
    go_wp2
    go_ret
    exact ⟨rfl, Hb1.out⟩
  case false =>
  have Hfew := hid (RFew_any (.slice none 0 0) _ [] tx w1 (SyIn.nil w1) (Ht.out.below Hb1.out))
  go_wp2_with fail
  refine Hfew.out.mono ?_
  rintro e w2 ⟨rfl, b2⟩
  have Hb2 := hid (bel_go b2 Hb1.out)
  clear b2 Hfew Hb1
  cases hfew : plFew [] tx
  case false =>
    go_wp2
    go_ret
    exact ⟨rfl, Hb2.out⟩
  case true =>
  have hft := few_tm hfew
  have Htm := hid (Ht.out.tms fun x hx => Nat.le_trans (hft x hx).2 (by decide))
  have Hft : Hid (∀ t ∈ tx.map Tx.tm, t.args.length ≤ 70 ∧ sz W t.num.natAbs ≤ 8) := hid (fun t h => by
    obtain ⟨x, hx, rfl⟩ := List.mem_map.1 h
    exact ⟨(hft x hx).1, few_sz x (hft x hx).2 (hsm x hx)⟩)
  have HL := hid (show (tx.map Tx.tm).length = tx.length by simp)
  clear hft hfew hsm Ht
  generalize tx.map Tx.tm = L at *
  have Hnew := hid (New_any _ sy w2 (Hs.out.below Hb2.out) Hn.out)
  go_wp2_with fail
  refine Hnew.out.mono ?_
  rintro e w3 ⟨hbad, hok, b3⟩
  have Hb3 := hid (bel_go b3 Hb2.out)
  have hz3 := Hb2.out.size
  have Hcs := hid (fun W (hW : Below w3.heap.size w3 W) => CheckSyms_any _ sy W ((Hs.out.below Hb3.out).below hW))
  clear b3 Hnew
  by_cases hne : plNewErr sy = 0
  case neg =>
    obtain rfl := hbad hne
    clear hok hbad
    generalize plNewErr sy = er at *
    have hbt : (er != 0) = true := by simpa using hne
    go_wp2_with fail
    refine (Hcs.out _ (Below.refl _ _)).mono ?_
    rintro e w4 ⟨rfl, b4⟩
    have Hb4 := hid (bel_go b4 Hb3.out)
    clear b4 Hcs
    go_wp2_with fail
    go_ret
    exact ⟨rfl, Hb4.out⟩
  case pos =>
  obtain ⟨g, S, rfl, hp, hS⟩ := hok hne
  rw [hne] at Hcs
  have Hp := hid hp; have HS := hid hS
  have hsl : sy.length ≤ 256 := hp.2.1.syms
  have Hsl := hid hsl
  clear hok hbad h300 hne Hb2 hp hS
  go_wp2_with fail
  refine (Hcs.out _ (Below.refl _ _)).mono ?_
  rintro e w4 ⟨rfl, b4⟩
  have Hp4 := hid (Hp.out.below b4)
  have Hb4 := hid (bel_go b4 Hb3.out)
  have hz4 := b4.size
  have hz43 := Hb3.out.size
  clear b4 Hcs
  have bx := below1 w4 (.cells #[.slice pa sy.length ca, .slice none 0 0] 27)
  have hg0 := heap_alloc_new w4 (.cells #[.slice pa sy.length ca, .slice none 0 0] 27)
  have hzg := size_alloc w4 (.cells #[.slice pa sy.length ca, .slice none 0 0] 27)
  go_upto_region 10 with fail
  generalize hW : (w4.alloc (.cells #[.slice pa sy.length ca, .slice none 0 0] 27)) = W5 at *
  obtain ⟨G, hG⟩ : ∃ G, G = w4.heap.size := ⟨_, rfl⟩
  rw [← hG] at hg0 hzg ⊢
  have hGw : w.heap.size ≤ G := by omega
  have hG5 : G < W5.heap.size := by omega
  have Hat : Hid (MakesAt w W5.heap.size G (.slice pa sy.length ca) L sy g W5) := hid ⟨_, S, .slice none 0 0, Hp4.out.below bx, fun i hi => by have := HS.out i hi; omega, ⟨rfl, by simp, Hsl.out, fun k h => absurd h (by simp)⟩, rfl, ⟨[], World.ownsRow_nil _ _ _ _, rfl⟩, (fun x h => absurd h (by simp)), hg0, (fun k hk => by cases hk), (fun h => by have := Hp4.out.2.2 G h; omega), bel_go bx Hb4.out, Nat.le_refl _⟩
  clear hW hg0 hG hzg bx Hp4 Hb4 HS Hp Hsl hsl Hb3 hz3 hz4 hz43
  go_wp2_with fail
  go_loopw [60] (fun i wr => ∃ k : Nat, k ≤ tx.length ∧ i = .int .i64 (k : Nat) ∧ Hid (MakesAt w W5.heap.size G (.slice pa sy.length ca) L sy g wr)) (fun i _ => tx.length - (intOf i).toNat)
  case atStart => exact ⟨0, Nat.zero_le _, rfl, Hat⟩
  case round =>
    obtain ⟨k, hk, rfl, Hk⟩ := hrel
    obtain ⟨pk, Sk, vr, hp, hS, hgood, hsy, hrf, hin, hgk, hvr, hGS, hb, hBr⟩ := Hk.out
    by_cases hlt : k < tx.length
    · have hlt' : (k : Int) < (tx.length : Nat) := by omega
      have hltL : k < L.length := by rw [HL.out]; exact hlt
      obtain ⟨pp, cc, e5, -, -, -, hc⟩ := Htm.out
      injection e5 with a5 b5 c5
      subst a5
      subst c5
      obtain ⟨bb, off, rfl, k1, k2⟩ := hc (by omega)
      obtain ⟨c0, c1, c2, c3, c4, m0, m1, m2, m3, m4, hraw⟩ := k2 k hltL
      have m0 := (hb.cell (p := ⟨bb, off + k * 5, none⟩) k1).trans m0
      have m1 := (hb.cell (p := ⟨bb, off + k * 5 + 1, none⟩) k1).trans m1
      have m2 := (hb.cell (p := ⟨bb, off + k * 5 + 2, none⟩) k1).trans m2
      have m3 := (hb.cell (p := ⟨bb, off + k * 5 + 3, none⟩) k1).trans m3
      have m4 := (hb.cell (p := ⟨bb, off + k * 5 + 4, none⟩) k1).trans m4
      have hft := Hft.out L[k] (List.getElem_mem hltL)
      have hmk := hgood.makes L[k]
      have hmw := fun v W h1 h2 h3 h4 h5 => Make_words w.heap.size Sk g pk (L[k]'hltL) v W h1 h2 h3 h4 h5
      have hrm := fun vs vr vt W h1 h2 h3 h4 h5 h6 h7 => RMake_any w W5.heap.size pk hgood (L[k]'hltL) vs vr vt W h1 h2 h3 h4 h5 h6 h7
      have hxm := List.getElem_mem hltL
      generalize L[k] = x at *
      generalize plMake pk x = rr at *
      obtain ⟨p2, n2, er⟩ := rr
      dsimp only at *
      have Hmk := hid hmk; have Hmw := hid hmw; have Hrm := hid hrm
      have hvk : ∀ k, vr.ownBlock = some k → W5.heap.size ≤ k ∧ k < wr.heap.size ∧ k ≠ G := fun k hk => by
        obtain ⟨cs, hrow, -⟩ := hrf
        have h1 := World.ownsRow.lt hrow k hk
        exact ⟨h1.1, h1.2, row_ne hrow hgk (by decide) k hk⟩
      have Hvk := hid hvk
      have hGr := lt_of_block hgk
      have Hraw := hid hraw
      obtain ⟨pe, ce, b', pm', nm', cm', ea, hia, hrn⟩ := hraw
      have ea' := agg5 ea
      obtain ⟨rfl, rfl, rfl, rfl, rfl⟩ := ea'
      have Hia := hid hia; have Hrn := hid hrn
      have Hp := hid hp; have HS := hid hS; have Hgood := hid hgood; have Hsy := hid hsy; have Hrf := hid hrf; have Hin := hid hin; have Hgk := hid hgk; have Hvr := hid hvr; have HGS := hid hGS; have Hb := hid hb; have Hft2 := hid hft; have Hxm := hid hxm
      have b1 := below1 wr (.cells #[.int .i64 x.op, .slice pe x.args.length ce, .bool b', .slice pm' nm' cm', .int .i64 x.sym] 39)
      have h1 := heap_alloc_new wr (.cells #[.int .i64 x.op, .slice pe x.args.length ce, .bool b', .slice pm' nm' cm', .int .i64 x.sym] 39)
      have z1 := size_alloc wr (.cells #[.int .i64 x.op, .slice pe x.args.length ce, .bool b', .slice pm' nm' cm', .int .i64 x.sym] 39)
      have b2 := below1 (wr.alloc (.cells #[.int .i64 x.op, .slice pe x.args.length ce, .bool b', .slice pm' nm' cm', .int .i64 x.sym] 39)) (.cells #[.int .i64 x.op, .slice pe x.args.length ce, .bool b', .slice pm' nm' cm', .int .i64 x.sym] 39)
      have h2 := heap_alloc_new (wr.alloc (.cells #[.int .i64 x.op, .slice pe x.args.length ce, .bool b', .slice pm' nm' cm', .int .i64 x.sym] 39)) (.cells #[.int .i64 x.op, .slice pe x.args.length ce, .bool b', .slice pm' nm' cm', .int .i64 x.sym] 39)
      have z2 := size_alloc (wr.alloc (.cells #[.int .i64 x.op, .slice pe x.args.length ce, .bool b', .slice pm' nm' cm', .int .i64 x.sym] 39)) (.cells #[.int .i64 x.op, .slice pe x.args.length ce, .bool b', .slice pm' nm' cm', .int .i64 x.sym] 39)
      clear hp hS hgood hsy hrf hin hgk hvr hGS hb hxm hc k2 hia hrn ea b5 Hk hmk hmw hrm hvk
      go_upto_region 14 with fail
      generalize hW : ((wr.alloc (.cells #[.int .i64 x.op, .slice pe x.args.length ce, .bool b', .slice pm' nm' cm', .int .i64 x.sym] 39)).alloc (.cells #[.int .i64 x.op, .slice pe x.args.length ce, .bool b', .slice pm' nm' cm', .int .i64 x.sym] 39)) = W2 at *
      have h12 := (b2.block wr.heap.size (by omega)).trans h1
      rw [z1] at h2 z2
      have bw := bel_go b2 b1
      clear hW b1 b2 h1 z1 m0 m1 m2 m3 m4
      obtain ⟨x0, x1, -, -, -⟩ := five_cells h12
      have bx0 := below1 W2 (.cells #[] 3)
      have hg0 := heap_alloc_new W2 (.cells #[] 3)
      have zx0 := size_alloc W2 (.cells #[] 3)
      rw [z2] at hg0 zx0
      have hn70 := Hft2.out.1
      have hown0 : (W2.alloc (.cells #[] 3)).ownsRow (wr.heap.size + 2) 3 1 (.slice (some ⟨wr.heap.size + 1 + 1, 0, none⟩) 0 0) ([] : List Int).length (zints []) := ⟨rfl, .inr ⟨wr.heap.size + 1 + 1, 0, #[], rfl, Nat.le_refl _, hg0, Nat.le_refl _, by simp [maxLen], rfl, rfl⟩⟩
      have hl2 := Hia.out.below (bel_go bx0 (bel_go bw Hb.out))
      have hX0 := (bx0.block wr.heap.size (by omega)).trans h12
      have hY0 := (bx0.block (wr.heap.size + 1) (by omega)).trans h2
      go_wp2_with (at_builtin; refine wpList_append_zints rfl _ _ 33 rfl elemInts (wr.heap.size + 2) _ [] rfl hown0 _ x.args rfl hl2 (by simp [maxLen]; omega) (by simp; omega) (by simp [z2]) ?_; intro v1 w1 ho hb1 hz1; have ho : w1.ownsRow (wr.heap.size + 2) 3 1 v1 x.args.length (zints x.args) := ho; obtain ⟨p1, c1, rfl⟩ := ownsRow_shape ho; have hY1 := (hb1.block (wr.heap.size + 1) (by omega)).trans hY0; have cy1 := five_cells hY1; obtain ⟨y0, y1, y2, y3, y4⟩ := cy1; have fx1 := frozen_of_row w1 (wr.heap.size + 1) 1 _ _ hY1)
      have hY6 := heap_setCell_same w1 (wr.heap.size + 1) 1 _ _ (.slice p1 x.args.length c1) hY1
      simp only [List.setIfInBounds_toArray, List.set_cons_zero, List.set_cons_succ] at hY6
      have hX6 := (Below.heap_setCell w1 ⟨wr.heap.size + 1, 1, none⟩ (.slice p1 x.args.length c1) wr.heap.size (by show wr.heap.size ≠ wr.heap.size + 1; omega)).trans ((hb1.block wr.heap.size (by omega)).trans hX0)
      have ho6 := ownsRow_setCell_below ho (a := ⟨wr.heap.size + 1, 1, none⟩) (by show wr.heap.size + 1 < wr.heap.size + 2; omega) (.slice p1 x.args.length c1)
      have b6 := ((bel_go bx0 bw).trans (hb1.mono (B' := wr.heap.size) (by omega))).setCell (p := ⟨wr.heap.size + 1, 1, none⟩) (Nat.le_succ _) (.slice p1 x.args.length c1)
      have hz6 : (w1.setCell ⟨wr.heap.size + 1, 1, none⟩ (.slice p1 x.args.length c1)).heap.size = w1.heap.size := by simp [World.setCell]
      generalize hW : (w1.setCell ⟨wr.heap.size + 1, 1, none⟩ (.slice p1 x.args.length c1)) = W6 at *
      clear hW fx1 y0 y1 y2 y3 y4 x0 x1 hY0 hX0 hl2 hown0 hg0 h12 h2 ho hY1 hb1
      replace hz6 := Nat.le_of_eq hz6.symm
      have hX2 : wr.heap.size + 2 < W6.heap.size := by omega
      clear hz6 hz1 zx0 z2 bx0 bw
      have hrw6 : TmRaw W6 (.agg #[.int .i64 x.op, .slice p1 x.args.length c1, .bool b', .slice pm' nm' cm', .int .i64 x.sym]) x := ⟨p1, c1, b', pm', nm', cm', rfl, IAt.own (ownsRow_mono ho6 (Nat.zero_le _)), Hrn.out.below (bel_go b6 Hb.out)⟩
      have Hmk6 := hid (Hmw.out _ W6 (Hp.out.below b6) (bel_go b6 Hb.out).size (Lib.TabBelow.on Htab.out (bel_go b6 Hb.out)) hrw6 (Nat.le_trans hn70 (by decide)))
      have HX6 := hid hX6; have HY6 := hid hY6; have Ho6 := hid ho6; have B6 := hid b6
      have hSlt := Hp.out.2.2
      have HSlt := hid hSlt
      clear hX6 hY6 ho6 b6 hrw6 Hmw hSlt
      refine Hmk6.out.mono ?_
      rintro e w7 ⟨⟨rfl, S7, hp7, hS7, hA7⟩, hw7⟩
      have hz7 := hA7.size
      have hfar : ∀ k, wr.heap.size ≤ k → ¬ Sk k := fun k hk hs => by have := HSlt.out k hs; omega
      have hX7 := (hA7.block wr.heap.size (by omega) (hfar _ (Nat.le_refl _))).trans HX6.out
      have hY7 := (hA7.block (wr.heap.size + 1) (by omega) (hfar _ (by omega))).trans HY6.out
      have hG7 := (hA7.block G (by omega) HGS.out).trans ((B6.out.block G hGr).trans Hgk.out)
      have ho7 := row_stays Ho6.out (w' := w7) fun k hk => hA7.block k (World.ownsRow.lt Ho6.out k hk).2 (hfar k (by have := (World.ownsRow.lt Ho6.out k hk).1; omega))
      have b7 := again_below B6.out Hb.out hA7 HS.out
      have hrf7 : RfIn w W5.heap.size w7 vr pk.terms := (Hrf.out.below B6.out).stays (fun k c t hc _ hk => by
        rcases hk with rfl | hk
        · exact hw7 k c hc
        · exact hA7.block k (lt_of_block hc) (Hvr.out k hk)) (fun k c hc => hw7 k c hc)
      have Hrm7 := hid (Hrm.out (.slice pa sy.length ca) vr _ w7 b7 (by omega) (by rw [Hsy.out]; exact Hs.out) hrf7 Hraw.out (Nat.le_trans Hft2.out.2 (by decide)) (fun y hy => Nat.le_trans (Hft.out y (Hin.out y hy)).2 (by decide)))
      have HX7 := hid hX7; have HY7 := hid hY7; have HG7 := hid hG7; have Ho7 := hid ho7; have B7 := hid b7; have Hp7 := hid hp7; have HS7 := hid hS7; have HA7 := hid hA7; have Hfar := hid hfar
      have q := two_cells hG7
      obtain ⟨g0, g1, -, -⟩ := q
      have q := five_cells hX7
      obtain ⟨x0, x1, x2, x3, x4⟩ := q
      clear Hmk6 hp7 hS7 hA7 hw7 hfar hX7 hY7 hG7 ho7 b7 hrf7 Hrm
      go_wp2_with fail
      refine Hrm7.out.mono ?_
      rintro e w8 ⟨v8, rfl, hrf8, hA8, hv8⟩
      dsimp only at hrf8
      have hz8 := hA8.size
      have hX8 := (hA8.block wr.heap.size (by omega) (fun e => by have := (Hvk.out _ e).2.1; omega)).trans HX7.out
      have hY8 := (hA8.block (wr.heap.size + 1) (by omega) (fun e => by have := (Hvk.out _ e).2.1; omega)).trans HY7.out
      have hG8 := (hA8.block G (by omega) (fun e => (Hvk.out _ e).2.2 rfl)).trans HG7.out
      have ho8 := row_stays Ho7.out (w' := w8) fun k hk => hA8.block k (World.ownsRow.lt Ho7.out k hk).2 (fun e => by have := (Hvk.out _ e).2.1; have := (World.ownsRow.lt Ho7.out k hk).1; omega)
      have hWz := Hb.out.size
      have b8 := B7.out.trans (hA8.below (B := w.heap.size) (by omega) (fun i hi => by have := (Hvk.out i hi).1; omega))
      have hp8 := Hp7.out.apart hA8 (fun k hk e => by
        have h1 := Hvk.out k e
        rcases HS7.out k hk with h2 | h2
        · exact Hvr.out k e h2
        · omega)
      obtain ⟨p8, c8, rfl⟩ : ∃ p c, v8 = .slice p p2.terms.length c := by obtain ⟨cs, hrow, -⟩ := hrf8; exact ownsRow_shape hrow
      have b9 := below1 w8 (.cells #[.slice pa sy.length ca, .slice p8 p2.terms.length c8] 27)
      have hM9 := heap_alloc_new w8 (.cells #[.slice pa sy.length ca, .slice p8 p2.terms.length c8] 27)
      have z9 := size_alloc w8 (.cells #[.slice pa sy.length ca, .slice p8 p2.terms.length c8] 27)
      clear x0 x1 x2 x3 x4 g0 g1
      go_upto_region 17 with fail
      generalize hW : (w8.alloc (.cells #[.slice pa sy.length ca, .slice p8 p2.terms.length c8] 27)) = W9 at *
      clear hW
      have hG9 := (b9.block G (by omega)).trans hG8
      have hX9 := (b9.block wr.heap.size (by omega)).trans hX8
      have hY9 := (b9.block (wr.heap.size + 1) (by omega)).trans hY8
      have ho9 := ownsRow_later ho8 b9
      have bw9 := bel_go b9 b8
      have Hsm9 := hid (RefSame_any x x _ _ W9 (⟨p1, c1, b', pm', nm', cm', rfl, IAt.own (ownsRow_mono ho9 (Nat.zero_le _)), Hrn.out.below bw9⟩ : TmRaw W9 (.agg #[.int .i64 x.op, .slice p1 x.args.length c1, .bool b', .slice pm' nm' cm', .int .i64 x.sym]) x) (Hraw.out.below bw9) (Nat.le_trans Hft2.out.2 (by decide)) (Nat.le_trans Hft2.out.2 (by decide)))
      rw [show decide (x = x) = true by simp] at Hsm9
      have HM9 := hid hM9; have HG9 := hid hG9; have HX9 := hid hX9; have HY9 := hid hY9; have Ho9 := hid ho9; have B9 := hid bw9; have Hp9 := hid (hp8.below b9); have Hrf9 := hid (hrf8.below b9); have Hv8 := hid hv8
      have q := five_cells hX9
      obtain ⟨x0, x1, x2, x3, x4⟩ := q
      have q := five_cells hY9
      obtain ⟨y0, y1, y2, y3, y4⟩ := q
      have hz9 := b9.size
      clear hX8 hY8 hG8 ho8 b8 hp8 hrf8 hA8 hv8 b9 hM9 hG9 hX9 hY9 ho9 bw9
      go_wp2_with fail
      refine Hsm9.out.mono ?_
      rintro e w10 ⟨rfl, b10⟩
      have hM10 := (b10.block w8.heap.size (by omega)).trans HM9.out
      have hG10 := (b10.block G (by omega)).trans HG9.out
      have q := two_cells hM10
      obtain ⟨m0, m1, -, -⟩ := q
      have q := two_cells hG10
      obtain ⟨g0, g1, f0, f1⟩ := q
      have hz10 := b10.size
      clear x0 x1 x2 x3 x4 y0 y1 y2 y3 y4 Hsm9
      go_upto_region 20 with fail
      have hGs := set2_same hG10 (.slice pa sy.length ca) (.slice p8 p2.terms.length c8)
      have E11 : ∀ k, k ≠ G → ((w10.setCell ⟨G, 0, none⟩ (.slice pa sy.length ca)).setCell ⟨G, 1, none⟩ (.slice p8 p2.terms.length c8)).heap[k]? = w10.heap[k]? := fun k hk => (Below.heap_setCell _ _ _ _ hk).trans (Below.heap_setCell _ _ _ _ hk)
      have z11 : ((w10.setCell ⟨G, 0, none⟩ (.slice pa sy.length ca)).setCell ⟨G, 1, none⟩ (.slice p8 p2.terms.length c8)).heap.size = w10.heap.size := by simp [World.setCell]
      have b11 : Below w.heap.size w ((w10.setCell ⟨G, 0, none⟩ (.slice pa sy.length ca)).setCell ⟨G, 1, none⟩ (.slice p8 p2.terms.length c8)) := ((bel_go b10 B9.out).setCell (p := ⟨G, 0, none⟩) (by show w.heap.size ≤ G; omega) _).setCell (p := ⟨G, 1, none⟩) (by show w.heap.size ≤ G; omega) _
      generalize hW : ((w10.setCell ⟨G, 0, none⟩ (.slice pa sy.length ca)).setCell ⟨G, 1, none⟩ (.slice p8 p2.terms.length c8)) = W11 at *
      clear hW
      have hGS7 : ¬ S7 G := fun h => by
        rcases HS7.out G h with h1 | h1
        · exact HGS.out h1
        · have := B6.out.size; omega
      have hp11 : PoAt W11 S7 g p2 := (Hp9.out.below b10).stays (fun k hk => E11 k (fun e => hGS7 (e ▸ hk))) (by omega)
      have hrf11 : RfIn w W5.heap.size W11 (.slice p8 p2.terms.length c8) p2.terms := (Hrf9.out.below b10).stays (fun k c t hc _ hk => E11 k (by
        rcases hk with rfl | hk
        · exact tag_ne hc hG10 (by decide)
        · obtain ⟨cs, hrow, -⟩ := Hrf9.out.below b10
          exact row_ne hrow hG10 (by decide) k hk)) (fun k c hc => E11 k (tag_ne hc hG10 (by decide)))
      have hY11 := (E11 (wr.heap.size + 1) (by omega)).trans ((b10.block (wr.heap.size + 1) (by omega)).trans HY9.out)
      have ho11 := row_stays (ownsRow_later Ho9.out b10) (w' := W11) fun k hk => E11 k (by have := (World.ownsRow.lt Ho9.out k hk).1; omega)
      have HG11 := hid hGs; have B11 := hid b11; have Hp11 := hid hp11; have Hrf11 := hid hrf11; have HY11 := hid hY11; have Ho11 := hid ho11; have HGS7 := hid hGS7
      have q := five_cells hY11
      obtain ⟨y0, y1, y2, y3, y4⟩ := q
      clear hM10 hG10 m0 m1 g0 g1 f0 f1 hGs E11 b11 hGS7 hp11 hrf11 hY11 b10
      obtain ⟨wo, rfl⟩ : ∃ wo, wo = wr := ⟨_, rfl⟩
      go_wp2_with fail
      go_loopw [101] (fun i wi => ∃ j : Nat, j ≤ x.args.length ∧ i = .int .i64 (j : Nat) ∧ Hid (Apart (fun k => (Value.slice p1 x.args.length c1).ownBlock = some k) W11 wi ∧ ∃ ys, wi.ownsRow (wo.heap.size + 2) 3 1 (.slice p1 x.args.length c1) x.args.length ys)) (fun i _ => x.args.length - (intOf i).toNat)
      case atStart => exact ⟨0, Nat.zero_le _, rfl, hid ⟨Apart.refl _ _, _, Ho11.out⟩⟩
      case round =>
        obtain ⟨j, hj, rfl, Hj⟩ := hrel
        have hzw := Hj.out.1.size
        have hz11 := B11.out.size
        have hYz := lt_of_block HY11.out
        have hYr := (Hj.out.1.block (wo.heap.size + 1) hYz (fun e => by have := (World.ownsRow.lt Ho11.out _ e).1; omega)).trans HY11.out
        have q := five_cells hYr
        clear y0 y1 y2 y3 y4
        obtain ⟨y0, y1, y2, y3, y4⟩ := q
        by_cases hlj : j < x.args.length
        case pos =>
          have hlj' : (j : Int) < (x.args.length : Nat) := by omega
          obtain ⟨hA, ys, hrow⟩ := Hj.out
          obtain ⟨gb, cap, e9, hgb, hgl, ⟨u, hu⟩, hf9, hset⟩ := row_set hrow j hlj
          have hrw := hset (.int .i64 (-1))
          cases e9
          have HA9 := hid (hA.setCell (p := ⟨gb, j, none⟩) rfl (.int .i64 (-1)))
          have Hrw := hid hrw
          clear hA hrow hset hrw Hj
          go_wp2_with fail
          go_roundw
          case rel => exact ⟨j + 1, by omega, rfl, hid ⟨HA9.out, Hrw.out⟩⟩
          case measure => simp [intOf]; omega
        case neg =>
          have hjj : j = x.args.length := by omega
          subst hjj
          obtain ⟨hA, ys, hrow⟩ := Hj.out
          have hgb : ∀ k, (Value.slice p1 x.args.length c1).ownBlock = some k → wo.heap.size + 2 ≤ k ∧ k < W6.heap.size := fun k hk => World.ownsRow.lt Ho6.out k hk
          have hp12 : PoAt wr S7 g p2 := Hp11.out.apart hA (fun k hk e => by
            have h1 := hgb k e
            rcases HS7.out k hk with h2 | h2
            · have := HSlt.out k h2; omega
            · omega)
          have hrf12 : RfIn w W5.heap.size wr (.slice p8 p2.terms.length c8) p2.terms := Hrf11.out.stays (fun k c t hc _ hk => hA.block k (lt_of_block hc) (fun e => by
            obtain ⟨c', hc'⟩ := row_tag Ho11.out k e
            rcases hk with rfl | hk
            · exact tag_ne hc hc' (by decide) rfl
            · obtain ⟨cs, hrow8, -⟩ := Hrf11.out
              obtain ⟨c8', h8⟩ := row_tag hrow8 k hk
              exact tag_ne h8 hc' (by decide) rfl)) (fun k c hc => hA.block k (lt_of_block hc) (fun e => by
            obtain ⟨c', hc'⟩ := row_tag Ho11.out k e
            exact tag_ne hc hc' (by decide) rfl))
          have hG12 := (hA.block G (lt_of_block HG11.out) (fun e => by have := hgb G e; omega)).trans HG11.out
          have b12 : Below w.heap.size w wr := B11.out.trans (hA.below (B := w.heap.size) hz11 (fun i hi => by have := hgb i hi; have := Hb.out.size; omega))
          have hS12 := again_base HS.out HS7.out Hb.out.size B6.out
          have hv12 : ∀ k, (Value.slice p8 p2.terms.length c8).ownBlock = some k → ¬ S7 k := fun k hk hs => by
            rcases Hv8.out with e | h1
            · rw [e] at hk
              have h2 := Hvk.out k hk
              rcases HS7.out k hs with h3 | h3
              · exact Hvr.out k hk h3
              · have := B6.out.size; omega
            · have h2 := h1 k hk
              have h3 := Hp7.out.2.2 k hs
              omega
          have hsy12 := Hmk.out.2.1.trans Hsy.out
          have hin12 : ∀ y ∈ p2.terms, y ∈ L := fun y hy => (Hmk.out.2.2.1 y hy).elim (Hin.out y) (fun e => e ▸ Hxm.out)
          have hB12 : W5.heap.size ≤ wr.heap.size := by have := B6.out.size; omega
          have Hk12 : Hid (MakesAt w W5.heap.size G (.slice pa sy.length ca) L sy g wr) := hid ⟨p2, S7, _, hp12, hS12, Hmk.out.1, hsy12, hrf12, hin12, hG12, hv12, HGS7.out, b12, hB12⟩
          by_cases he : er = 0
          case neg =>
            have heb : (er == 0) = false := by simpa using he
            clear hA hrow hgb hp12 hrf12 hG12 b12 hS12 hv12 hsy12 hin12 hB12 y0 y1 y2 y3 y4 he
            go_wp2_with fail
            go_roundw
            case rel => exact ⟨k + 1, by omega, rfl, Hk12⟩
            case measure => simp [intOf]; omega
          case pos =>
            subst he
            obtain ⟨kk, hkn, hkl⟩ := Hmk.out.2.2.2 rfl
            subst hkn
            have Hso := hid (Sort_some g p2 kk wr hp12.rd hkl)
            have Hrs := hid (fun W (hW : Below wr.heap.size wr W) => RSort_any p2 Hmk.out.1 kk (.agg #[.slice pa sy.length ca, .slice p8 p2.terms.length c8]) W ⟨_, _, rfl, by rw [hsy12]; exact Hs.out.below (bel_go hW b12), (hrf12.below hW).tms (bel_go hW b12) (fun y hy => Nat.le_trans (Hft.out y (hin12 y hy)).2 (by decide))⟩ hkl)
            have HG12 := hid hG12
            generalize plSortAt p2 (kk : Nat) = so at *
            clear hA hrow hgb hp12 hrf12 hG12 b12 hS12 hv12 hsy12 hin12 hB12 y0 y1 y2 y3 y4 Hmk
            go_wp2_with fail
            refine Hso.out.mono ?_
            rintro e w13 ⟨rfl, b13⟩
            have hG13 := (b13.block G (lt_of_block HG12.out)).trans HG12.out
            have q := two_cells hG13
            obtain ⟨g0, g1, -, -⟩ := q
            have Hrs13 := hid (Hrs.out w13 b13)
            have B13 := hid b13
            clear hG13 b13 Hrs Hso
            go_wp2_with fail
            refine Hrs13.out.mono ?_
            rintro e w14 ⟨rfl, b14⟩
            have Hk14 := hid (Hk12.out.below (bel_go b14 B13.out))
            clear b14 g0 g1
            go_wp2_with fail
            go_roundw
            case rel => exact ⟨k + 1, by omega, rfl, Hk14⟩
            case measure => simp [intOf]; omega
    · have hkk : k = tx.length := by omega
      subst hkk
      obtain ⟨pv, cv, rfl⟩ : ∃ p c, vr = .slice p pk.terms.length c := by obtain ⟨cs, hrow, -⟩ := hrf; exact ownsRow_shape hrow
      have Hs1 := hid (Sort_none g pk ((pk.terms.length : Nat) : Int) wr hp.rd (by unfold plNoTerm; simp))
      have hs2 := fun W (hW : Below wr.heap.size wr W) => Sort_none g pk (-1) W (hp.below hW).rd (by unfold plNoTerm; simp)
      have hrws := fun W (hW : Below wr.heap.size wr W) => Rows_any Sk g pk W (hp.below hW)
      have hrwi : ∀ W, Below wr.heap.size wr W → RwIn W (.agg #[.slice pa sy.length ca, .slice pv pk.terms.length cv]) pk.syms pk.terms := fun W hW => ⟨_, _, rfl, by rw [hsy]; exact Hs.out.below (bel_go hW hb), (hrf.below hW).tms (bel_go hW hb) (fun y hy => Nat.le_trans (Hft.out y (hin y hy)).2 (by decide))⟩
      have hsr : ∀ (v : Value) (W : World), RowsOwn wr.heap.size W v pk.syms pk.terms → Below wr.heap.size wr W → Calls Tryd.prog 18 #[v, .agg #[.slice pa sy.length ca, .slice pv pk.terms.length cv]] W (RBool true W) := fun v W ho hW => by
        obtain ⟨a, b, rfl, hs9, ht9⟩ := ho
        exact SameRows_true _ _ pk.syms pk.terms W ⟨_, _, rfl, (SyAt.own (ownsRow_mono hs9 (Nat.zero_le _))).handed, ht9.in (fun t h => Nat.le_trans (Hft.out t (hin t h)).2 (by decide))⟩ (hrwi W hW) (fun t h => Nat.le_trans (Hft.out t (hin t h)).2 (by decide))
      have HS : Hid (∀ w', Below wr.heap.size wr w' → w'.cell? ⟨G, 0, none⟩ = some (.slice pa sy.length ca) ∧ w'.cell? ⟨G, 1, none⟩ = some (.slice pv pk.terms.length cv)) := hid fun w' hw =>
        have hx := (hw.block G (lt_of_block hgk)).trans hgk
        ⟨(two_cells hx).1, (two_cells hx).2.1⟩
      have Hs2 := hid hs2; have Hrw := hid hrws; have Hsr := hid hsr; have Hbw := hid hb
      have q := two_cells hgk
      obtain ⟨g0, g1, -, -⟩ := q
      clear hp hS hgood hsy hrf hin hgk hvr hGS hb hs2 hrws hrwi hsr Hk Hat hlt
      generalize pk.syms = syms at *
      generalize pk.terms = terms at *
      go_wp2_with fail
      refine Hs1.out.mono ?_
      rintro e w5 ⟨rfl, b5⟩
      have B5 := hid b5
      clear b5 g0 g1 Hs1
      go_wp2_with fail
      refine (Hs2.out w5 B5.out).mono ?_
      rintro e w6 ⟨rfl, b6⟩
      have B6 := hid (bel_go b6 B5.out)
      have HS6 : Hid (∀ w', Below w6.heap.size w6 w' → w'.cell? ⟨G, 0, none⟩ = some (.slice pa sy.length ca) ∧ w'.cell? ⟨G, 1, none⟩ = some (.slice pv terms.length cv)) := hid fun w' hw => HS.out w' (bel_go hw B6.out)
      clear b6 Hs2 HS
      go_upto_region 32 with fail
      refine wp_region_facts (w0 := w6) 13 0 [140, 141, 142, 143, 144, 145, 146, 147, 148, 149, 150, 151, 4] [undef, undef, undef, undef, undef, undef, undef, undef, undef, undef, undef, undef, u4]
        (fun i => match i with | 0 => eqD (.int .i64 1) | 1 => eqD (.bool true) | 2 => eqD (.bool true) | 3 => eqD (.int .i64 1) | 4 => eqD (.bool true) | 5 => eqD (.bool true) | 6 => eqD (.bool true) | 7 => eqD (.pointer (some ⟨g, 0, none⟩)) | 8 => rowsF wr.heap.size syms terms | 9 => eqD (.agg #[.slice pa sy.length ca, .slice pv terms.length cv]) | 10 => eqD (.bool true) | 11 => eqD (.bool true) | _ => eqD (.bool true)) [] (by kernel_rfl) (by kernel_rfl) (by kernel_rfl) (by kernel_rfl) (by decide) rfl (by kernel_rfl) rfl (by simp) ?he1 ?_ ?_ ?_
      case he1 => simp only [putAll, Act.put, List.setIfInBounds_toArray, List.set_cons_zero, List.set_cons_succ]
      · intro i hi; simp at hi
      · intro i o hi ho vs wx hvl hb hdep K hK
        have hvs := vlen13 hvl
        obtain ⟨s140, s141, s142, s143, s144, s145, s146, s147, s148, s149, s150, s151, s4, rfl⟩ := hvs
        clear hvl
        have hk := HS6.out wx hb
        go_split_ands
        rcases i with _ | _ | _ | _ | _ | _ | _ | _ | _ | _ | _ | _ | _ | i
        all_goals (simp only [List.getElem?_toArray, List.getElem?_cons_zero, List.getElem?_cons_succ, Option.some.injEq] at ho)
        all_goals try (subst ho)
        all_goals try simp only [putAll, Act.put, List.setIfInBounds_toArray, List.set_cons_zero, List.set_cons_succ]
        · go_simp
          have hK' := hK.out
          simp only [putAll, Act.put, List.setIfInBounds_toArray, List.set_cons_zero, List.set_cons_succ] at hK'
          exact hK' _ _ rfl (Below.refl _ _) (by simp)
        · have e0 : s140 = _ := hdep ⟨0, .data⟩ (by simp) rfl
          have e0 := e0.symm
          subst e0
          go_simp
          have hK' := hK.out
          simp only [putAll, Act.put, List.setIfInBounds_toArray, List.set_cons_zero, List.set_cons_succ] at hK'
          exact hK' _ _ rfl (Below.refl _ _) (by simp)
        · have e1 : s141 = _ := hdep ⟨1, .data⟩ (by simp) rfl
          have e1 := e1.symm
          subst e1
          go_simp
          have hK' := hK.out
          simp only [putAll, Act.put, List.setIfInBounds_toArray, List.set_cons_zero, List.set_cons_succ] at hK'
          exact hK' _ _ rfl (Below.refl _ _) (by simp)
        · have e2 : s142 = _ := hdep ⟨2, .guard⟩ (by simp) rfl
          subst e2
          go_simp
          have hK' := hK.out
          simp only [putAll, Act.put, List.setIfInBounds_toArray, List.set_cons_zero, List.set_cons_succ] at hK'
          exact hK' _ _ rfl (Below.refl _ _) (by simp)
        · have e3 : s143 = _ := hdep ⟨3, .data⟩ (by simp) rfl
          have e3 := e3.symm
          subst e3
          have e2 : s142 = _ := hdep ⟨2, .guard⟩ (by simp) rfl
          subst e2
          go_simp
          have hK' := hK.out
          simp only [putAll, Act.put, List.setIfInBounds_toArray, List.set_cons_zero, List.set_cons_succ] at hK'
          exact hK' _ _ rfl (Below.refl _ _) (by simp)
        · have e2 : s142 = _ := hdep ⟨2, .data⟩ (by simp) rfl
          have e2 := e2.symm
          subst e2
          have e4 : s144 = _ := hdep ⟨4, .data⟩ (by simp) rfl
          have e4 := e4.symm
          subst e4
          go_simp
          have hK' := hK.out
          simp only [putAll, Act.put, List.setIfInBounds_toArray, List.set_cons_zero, List.set_cons_succ] at hK'
          exact hK' _ _ rfl (Below.refl _ _) (by simp)
        · have e5 : s145 = _ := hdep ⟨5, .data⟩ (by simp) rfl
          have e5 := e5.symm
          subst e5
          go_simp
          have hK' := hK.out
          simp only [putAll, Act.put, List.setIfInBounds_toArray, List.set_cons_zero, List.set_cons_succ] at hK'
          exact hK' _ _ rfl (Below.refl _ _) (by simp)
        · have e6 : s146 = _ := hdep ⟨6, .guard⟩ (by simp) rfl
          subst e6
          go_simp
          have hK' := hK.out
          simp only [putAll, Act.put, List.setIfInBounds_toArray, List.set_cons_zero, List.set_cons_succ] at hK'
          exact hK' _ _ rfl (Below.refl _ _) (by simp)
        · have e7 : s147 = _ := hdep ⟨7, .data⟩ (by simp) rfl
          have e7 := e7.symm
          subst e7
          have e6 : s146 = _ := hdep ⟨6, .guard⟩ (by simp) rfl
          subst e6
          go_simp
          go_simp
          refine (Hrw.out _ (bel_go hb B6.out)).mono ?_
          rintro e wy ⟨v', rfl, ho, hby⟩
          go_wp2_with fail
          have hK' := hK.out
          simp only [putAll, Act.put, List.setIfInBounds_toArray, List.set_cons_zero, List.set_cons_succ] at hK'
          exact hK' _ _ (ho.mono (bel_go hb B6.out).size) hby (by simp)
        · have e6 : s146 = _ := hdep ⟨6, .guard⟩ (by simp) rfl
          subst e6
          go_simp
          have hK' := hK.out
          simp only [putAll, Act.put, List.setIfInBounds_toArray, List.set_cons_zero, List.set_cons_succ] at hK'
          exact hK' _ _ rfl (Below.refl _ _) (by simp)
        · have e8 : (rowsF wr.heap.size syms terms).P s148 wx := hdep ⟨8, .data⟩ (by simp) rfl
          have e9 : s149 = _ := hdep ⟨9, .data⟩ (by simp) rfl
          have e9 := e9.symm
          subst e9
          have e6 : s146 = _ := hdep ⟨6, .guard⟩ (by simp) rfl
          subst e6
          go_simp
          have ho := (show RowsOwn wr.heap.size wx s148 syms terms from e8)
          have hsr := Hsr.out _ wx ho (bel_go hb B6.out)
          go_simp
          refine hsr.mono ?_
          rintro e wy ⟨rfl, hby⟩
          go_wp2_with fail
          have hK' := hK.out
          simp only [putAll, Act.put, List.setIfInBounds_toArray, List.set_cons_zero, List.set_cons_succ] at hK'
          exact hK' _ _ rfl hby (by simp)
        · have e6 : s146 = _ := hdep ⟨6, .data⟩ (by simp) rfl
          have e6 := e6.symm
          subst e6
          have e10 : s150 = _ := hdep ⟨10, .data⟩ (by simp) rfl
          have e10 := e10.symm
          subst e10
          go_simp
          have hK' := hK.out
          simp only [putAll, Act.put, List.setIfInBounds_toArray, List.set_cons_zero, List.set_cons_succ] at hK'
          exact hK' _ _ rfl (Below.refl _ _) (by simp)
        · have e11 : s151 = _ := hdep ⟨11, .data⟩ (by simp) rfl
          have e11 := e11.symm
          subst e11
          go_simp
          have hK' := hK.out
          simp only [putAll, Act.put, List.setIfInBounds_toArray, List.set_cons_zero, List.set_cons_succ] at hK'
          exact hK' _ _ rfl (Below.refl _ _) (by simp)
        · omega
      · intro vs wx hvl hb hf hdist
        have hvs := vlen13 hvl
        obtain ⟨s140, s141, s142, s143, s144, s145, s146, s147, s148, s149, s150, s151, s4, rfl⟩ := hvs
        have f12 : s4 = .bool true := hf 12 (by decide)
        clear hf hdist hvl
        subst f12
        refine wpAny_done (by kernel_rfl) ?_ _
        try simp only [putAll, Act.put, List.setIfInBounds_toArray, List.set_cons_zero, List.set_cons_succ]
        go_wp2
        go_ret
        exact ⟨rfl, bel_go hb (bel_go B6.out Hbw.out)⟩
end Go.Proofs.YtmdkfpidohcafaaDoor
